import Derived.Test.YtdfndcbakcmgiaaDoorC1
import Derived.Deep.RegionHeld3
import Derived.Deep.QuietTactic
import Derived.BigQuiet
namespace Go.Proofs.YtdfndcbakcmgiaaDoor
open Go.RowKit

/-! Rows that a call owns, each in a block of its own; a row may be nil. -/

def Apart (a b : RowD) : Prop := a.v.ownBlock ≠ b.v.ownBlock ∨ a.v.ownBlock = none
theorem Apart.symm {a b : RowD} (h : Apart a b) : Apart b a := by
  unfold Apart at *
  rcases h with h | h
  · exact .inl (Ne.symm h)
  · by_cases hb : b.v.ownBlock = none
    · exact .inr hb
    · exact .inl (by rw [h]; exact hb)
def RowD.owned (w : World) (B : Nat) (r : RowD) : Prop := w.ownsRow B r.e r.size r.v r.n r.xs
def Fams (w : World) (B : Nat) (fam : List RowD) : Prop := (∀ r ∈ fam, r.owned w B) ∧ fam.Pairwise Apart

theorem Fams.perm {w : World} {B : Nat} {f f' : List RowD} (h : Fams w B f) (hp : f.Perm f') : Fams w B f' :=
  ⟨fun r hr => h.1 r (hp.mem_iff.2 hr), (hp.pairwise_iff (fun hab => Apart.symm hab)).1 h.2⟩
theorem Fams.own {w : World} {B : Nat} {r : RowD} {f : List RowD} (h : Fams w B f) (hm : r ∈ f) : w.ownsRow B r.e r.size r.v r.n r.xs := h.1 r hm
theorem Fams.tail {w : World} {B : Nat} {r : RowD} {f : List RowD} (h : Fams w B (r :: f)) : Fams w B f :=
  ⟨fun x hx => h.1 x (List.mem_cons_of_mem _ hx), (List.pairwise_cons.1 h.2).2⟩
theorem Fams.nil (w : World) (B : Nat) : Fams w B [] := ⟨by simp, List.Pairwise.nil⟩

theorem Fams.head {w w' : World} {B : Nat} {r r' : RowD} {f : List RowD} (h : Fams w B (r :: f)) (hg : w.grownBy w' r.v.ownBlock) (hf : Fresh w r.v r'.v) (ha : r'.owned w' B) : Fams w' B (r' :: f) := by
  obtain ⟨h1, h2⟩ := h
  rw [List.pairwise_cons] at h2
  have hother : ∀ x ∈ f, x.v.ownBlock = none ∨ x.v.ownBlock ≠ r.v.ownBlock := fun x hx => by
    rcases (h2.1 x hx).symm with h | h
    · exact .inr h
    · exact .inl h
  refine ⟨fun x hx => ?_, ?_⟩
  · rcases List.mem_cons.1 hx with rfl | hx
    · exact ha
    · exact World.ownsRow.kept (h1 x (List.mem_cons_of_mem _ hx)) hg (hother x hx)
  · rw [List.pairwise_cons]
    refine ⟨fun x hx => ?_, h2.2⟩
    rcases hf with e | ⟨g, e, hgw⟩
    · rcases h2.1 x hx with h | h
      · exact .inl (by rw [e]; exact h)
      · exact .inr (by rw [e]; exact h)
    · refine .inl ?_
      rw [e]
      intro hh
      have := (World.ownsRow.lt (h1 x (List.mem_cons_of_mem _ hx)) g hh.symm).2
      omega

theorem Fams.kept {w w' : World} {B : Nat} {f : List RowD} (h : Fams w B f) (hg : w.grownBy w' none) : Fams w' B f :=
  ⟨fun r hr => World.ownsRow.kept (h.1 r hr) hg (by cases hv : r.v.ownBlock <;> simp), h.2⟩
theorem Fams.alloc {w : World} {B : Nat} {f : List RowD} (h : Fams w B f) (o : Obj) : Fams (w.alloc o) B f := h.kept (World.grownBy_alloc w o none)
theorem Fams.below {w w' : World} {B : Nat} {f : List RowD} (h : Fams w B f) (hb : Below w.heap.size w w') : Fams w' B f := h.kept (grownBy_of_below hb)
theorem Fams.drew {w : World} {B : Nat} {f : List RowD} (h : Fams w B f) : Fams w.drew B f := h.below (Below.refl _ _).drew

theorem Fams.lit {w : World} {B : Nat} {f : List RowD} (h : Fams w B f) (hB : B ≤ w.heap.size) (e : TypeId) (size : Nat) (cs : Array Value) (n : Nat) (hm : n ≤ maxLen) (hs : cs.size = n * size) :
    Fams (w.alloc (.cells cs e)) B (⟨e, size, .slice (some ⟨w.heap.size, 0, none⟩) n n, n, cs.toList⟩ :: f) := by
  have h' := h.alloc (.cells cs e)
  refine ⟨fun x hx => ?_, ?_⟩
  · rcases List.mem_cons.1 hx with rfl | hx
    · exact World.ownsRow_lit w cs n hB hm hs
    · exact h'.1 x hx
  · rw [List.pairwise_cons]
    refine ⟨fun x hx => .inl ?_, h'.2⟩
    intro hh
    have := (World.ownsRow.lt (h.1 x hx) w.heap.size (by rw [← hh]; rfl)).2
    omega
/-- A row that lies wholly in blocks that were not there. -/
theorem Fams.add {w w' : World} {B : Nat} {f : List RowD} {r : RowD} (h : Fams w B f) (hb : Below w.heap.size w w') (ho : r.owned w' w.heap.size) (hB : B ≤ w.heap.size) : Fams w' B (r :: f) := by
  have h' := h.below hb
  refine ⟨fun x hx => ?_, ?_⟩
  · rcases List.mem_cons.1 hx with rfl | hx
    · obtain ⟨h1, h2⟩ := ho
      refine ⟨h1, ?_⟩
      rcases h2 with h2 | ⟨g, cap, cur, a, b, c⟩
      · exact .inl h2
      · exact .inr ⟨g, cap, cur, a, Nat.le_trans hB b, c⟩
    · exact h'.1 x hx
  · rw [List.pairwise_cons]
    refine ⟨fun x hx => ?_, h'.2⟩
    cases hr : r.v.ownBlock with
    | none => exact .inr hr
    | some k =>
      refine .inl ?_
      rw [hr]
      intro hh
      have h1 := (World.ownsRow.lt ho k hr).1
      have h2 := (World.ownsRow.lt (h.1 x hx) k hh.symm).2
      omega
theorem Fams.addNil {w : World} {B : Nat} {f : List RowD} (h : Fams w B f) (e : TypeId) (size : Nat) : Fams w B (⟨e, size, .slice none 0 0, 0, []⟩ :: f) := by
  refine ⟨fun x hx => ?_, ?_⟩
  · rcases List.mem_cons.1 hx with rfl | hx
    · exact World.ownsRow_nil _ _ _ _
    · exact h.1 x hx
  · rw [List.pairwise_cons]
    exact ⟨fun x _ => .inr rfl, h.2⟩

/-- A store into a row that is not nil. -/
theorem Fams.store {w : World} {B : Nat} {e : TypeId} {size g n cap : Nat} {xs : List Value} {f : List RowD} (h : Fams w B (⟨e, size, .slice (some ⟨g, 0, none⟩) n cap, n, xs⟩ :: f)) (j : Nat) (u : Value) :
    Fams (w.setCell ⟨g, j, none⟩ u) B (⟨e, size, .slice (some ⟨g, 0, none⟩) n cap, n, xs.set j u⟩ :: f) := by
  have ho := h.own (List.mem_cons_self ..)
  have hs := World.ownsRow.stored ho j u
  exact Fams.head h hs.2 (.inl rfl) hs.1

/-! The reference's world. -/
/-- A thread's digit. -/
def nameS (t : Nat) : ByteArray := ⟨#[UInt8.ofNat (48 + t)]⟩
/-- Who has a lock, as a text. -/
def hasS : Option Nat → ByteArray
  | none => ⟨#[]⟩
  | some t => nameS t
structure Ev where
  thread : Int
  place : Int
  txt : ByteArray
  holds : ByteArray
def evCells (x : Ev) : List Value := [.int .i64 x.thread, .int .i64 x.place, .string x.txt, .string x.holds]
structure Wd where
  prog : List (List ByteArray)
  born : List Bool
  place : List Nat
  has : List (Option Nat)
  set : List Bool
  log : List Ev

def placeCells (l : List Nat) : List Value := l.map fun (n : Nat) => Value.int .i64 (n : Int)
def hasCells (l : List (Option Nat)) : List Value := l.map fun o => Value.string (hasS o)
def rowsS : List (List ByteArray) → List Value → List RowD
  | l :: ls, v :: vs => ⟨9, 1, v, l.length, l.map Value.string⟩ :: rowsS ls vs
  | _, _ => []
/-- The values of the six fields. -/
structure Six where
  P : Value
  B : Value
  L : Value
  H : Value
  S : Value
  G : Value
def famW (p : Nat) (W : Wd) (v : Six) (inner : List Value) : List RowD :=
  ⟨47, 1, .slice (some ⟨p, 0, none⟩) 6 6, 6, [v.P, v.B, v.L, v.H, v.S, v.G]⟩ ::
  ⟨4, 1, v.B, W.born.length, W.born.map Value.bool⟩ ::
  ⟨3, 1, v.L, W.place.length, placeCells W.place⟩ ::
  ⟨9, 1, v.H, W.has.length, hasCells W.has⟩ ::
  ⟨4, 1, v.S, W.set.length, W.set.map Value.bool⟩ ::
  ⟨89, 4, v.G, W.log.length, W.log.flatMap evCells⟩ ::
  ⟨35, 1, v.P, W.prog.length, inner⟩ :: rowsS W.prog inner

/-- The world W lies behind the pointer to block p, all of it in blocks of the call's own. -/
def RepW (w : World) (B p : Nat) (W : Wd) : Prop := ∃ v inner, inner.length = W.prog.length ∧ Fams w B (famW p W v inner)

theorem RepW.below {w w' : World} {B p : Nat} {W : Wd} (h : RepW w B p W) (hb : Below w.heap.size w w') : RepW w' B p W := by
  obtain ⟨v, inner, hl, hf⟩ := h
  exact ⟨v, inner, hl, hf.below hb⟩

/-- What is read of a world that is not nil in any of its parts but, perhaps, the log. -/
structure WIn (w : World) (p : Nat) (W : Wd) (gP cP gB cB gL cL gH cH gS cS : Nat) (aG : Option Addr) (cG : Nat) : Prop where
  fP : w.cell? ⟨p, 0, none⟩ = some (.slice (some ⟨gP, 0, none⟩) W.prog.length cP)
  fB : w.cell? ⟨p, 1, none⟩ = some (.slice (some ⟨gB, 0, none⟩) W.born.length cB)
  fL : w.cell? ⟨p, 2, none⟩ = some (.slice (some ⟨gL, 0, none⟩) W.place.length cL)
  fH : w.cell? ⟨p, 3, none⟩ = some (.slice (some ⟨gH, 0, none⟩) W.has.length cH)
  fS : w.cell? ⟨p, 4, none⟩ = some (.slice (some ⟨gS, 0, none⟩) W.set.length cS)
  fG : w.cell? ⟨p, 5, none⟩ = some (.slice aG W.log.length cG)
  cB' : ∀ j x, W.born[j]? = some x → w.cell? ⟨gB, j, none⟩ = some (.bool x)
  cL' : ∀ (j : Nat) (x : Nat), W.place[j]? = some x → w.cell? ⟨gL, j, none⟩ = some (.int .i64 (x : Int))
  cH' : ∀ j x, W.has[j]? = some x → w.cell? ⟨gH, j, none⟩ = some (.string (hasS x))
  cS' : ∀ j x, W.set[j]? = some x → w.cell? ⟨gS, j, none⟩ = some (.bool x)
  cP' : ∀ t l, W.prog[t]? = some l → ∃ a c, w.cell? ⟨gP, t, none⟩ = some (.slice a l.length c) ∧ (l ≠ [] → ∃ g, a = some ⟨g, 0, none⟩ ∧ ∀ j x, l[j]? = some x → w.cell? ⟨g, j, none⟩ = some (.string x))
  cG' : W.log ≠ [] → ∃ g, aG = some ⟨g, 0, none⟩ ∧ ∀ j x, W.log[j]? = some x → w.cell? ⟨g, 4 * j, none⟩ = some (.int .i64 x.thread) ∧ w.cell? ⟨g, 4 * j + 1, none⟩ = some (.int .i64 x.place) ∧ w.cell? ⟨g, 4 * j + 2, none⟩ = some (.string x.txt) ∧ w.cell? ⟨g, 4 * j + 3, none⟩ = some (.string x.holds)

/-- The slice of a row that is not empty lies somewhere. -/
theorem ownsRow_form {w : World} {B : Nat} {e : TypeId} {size n : Nat} {v : Value} {xs : List Value} (h : w.ownsRow B e size v n xs) (hn : n ≠ 0) :
    ∃ g cap, v = .slice (some ⟨g, 0, none⟩) n cap ∧ B ≤ g ∧ g < w.heap.size ∧ ∀ j x, xs[j]? = some x → w.cell? ⟨g, j, none⟩ = some x := by
  rcases h.2 with ⟨_, h0⟩ | ⟨g, cap, cur, hv, hb, hg, _⟩
  · exact absurd h0 hn
  · refine ⟨g, cap, hv, hb, (Array.getElem?_eq_some_iff.1 hg).1, fun j x hx => ?_⟩
    have hj : j < n * size := by rw [← h.1]; exact (List.getElem?_eq_some_iff.1 hx).1
    rw [hv] at h
    rw [h.cellAt j hj, hx]

theorem flat_ev : ∀ (l : List Ev) (j : Nat) (x : Ev), l[j]? = some x →
    (l.flatMap evCells)[4 * j]? = some (.int .i64 x.thread) ∧ (l.flatMap evCells)[4 * j + 1]? = some (.int .i64 x.place) ∧ (l.flatMap evCells)[4 * j + 2]? = some (.string x.txt) ∧ (l.flatMap evCells)[4 * j + 3]? = some (.string x.holds)
  | [], _, _, h => by simp at h
  | a :: l, 0, x, h => by
    simp at h; subst h
    simp [evCells]
  | a :: l, j + 1, x, h => by
    have := flat_ev l j x (by simpa using h)
    have e : 4 * (j + 1) = 4 * j + 4 := by omega
    rw [e]
    simpa [evCells] using this

theorem rowsS_mem : ∀ (L : List (List ByteArray)) (vs : List Value) (t : Nat) (l : List ByteArray), vs.length = L.length → L[t]? = some l → ∃ v, vs[t]? = some v ∧ (⟨9, 1, v, l.length, l.map Value.string⟩ : RowD) ∈ rowsS L vs
  | [], _, _, _, _, h => by simp at h
  | _ :: _, [], _, _, h, _ => by simp at h
  | a :: L, b :: vs, 0, l, _, h => by
    simp at h; subst h
    exact ⟨b, rfl, List.mem_cons_self ..⟩
  | a :: L, b :: vs, t + 1, l, hl, h => by
    obtain ⟨v, h1, h2⟩ := rowsS_mem L vs t l (by simpa using hl) (by simpa using h)
    exact ⟨v, by simpa using h1, List.mem_cons_of_mem _ h2⟩

/-- The shape of a world that the reference makes: as many places as threads, six locks, six flags. -/
structure Wd.Ok (W : Wd) : Prop where
  np : W.prog.length ≠ 0
  nb : W.born.length = W.prog.length
  nl : W.place.length = W.prog.length
  nh : W.has.length = 6
  ns : W.set.length = 6

theorem RepW.wIn {w : World} {B p : Nat} {W : Wd} (h : RepW w B p W) (ok : W.Ok) : ∃ gP cP gB cB gL cL gH cH gS cS aG cG, WIn w p W gP cP gB cB gL cL gH cH gS cS aG cG := by
  obtain ⟨v, inner, hl, hf⟩ := h
  have o0 := hf.own (r := ⟨47, 1, .slice (some ⟨p, 0, none⟩) 6 6, 6, [v.P, v.B, v.L, v.H, v.S, v.G]⟩) (by simp [famW])
  have o1 := hf.own (r := ⟨4, 1, v.B, W.born.length, W.born.map Value.bool⟩) (by simp [famW])
  have o2 := hf.own (r := ⟨3, 1, v.L, W.place.length, placeCells W.place⟩) (by simp [famW])
  have o3 := hf.own (r := ⟨9, 1, v.H, W.has.length, hasCells W.has⟩) (by simp [famW])
  have o4 := hf.own (r := ⟨4, 1, v.S, W.set.length, W.set.map Value.bool⟩) (by simp [famW])
  have o5 := hf.own (r := ⟨89, 4, v.G, W.log.length, W.log.flatMap evCells⟩) (by simp [famW])
  have o6 := hf.own (r := ⟨35, 1, v.P, W.prog.length, inner⟩) (by simp [famW])
  simp only at o0 o1 o2 o3 o4 o5 o6
  obtain ⟨gB, cB, eB, _, _, kB⟩ := ownsRow_form o1 (by have := ok.nb; have := ok.np; omega)
  obtain ⟨gL, cL, eL, _, _, kL⟩ := ownsRow_form o2 (by have := ok.nl; have := ok.np; omega)
  obtain ⟨gH, cH, eH, _, _, kH⟩ := ownsRow_form o3 (by have := ok.nh; omega)
  obtain ⟨gS, cS, eS, _, _, kS⟩ := ownsRow_form o4 (by have := ok.ns; omega)
  obtain ⟨gP, cP, eP, _, _, kP⟩ := ownsRow_form o6 ok.np
  have hG : ∃ aG cG, v.G = .slice aG W.log.length cG ∧ (W.log ≠ [] → ∃ g, aG = some ⟨g, 0, none⟩ ∧ ∀ j x, (W.log.flatMap evCells)[j]? = some x → w.cell? ⟨g, j, none⟩ = some x) := by
    by_cases h0 : W.log.length = 0
    · rcases o5.2 with ⟨hv, _⟩ | ⟨g, cap, cur, hv, _⟩
      · exact ⟨none, 0, by rw [hv, h0], fun h => absurd (List.length_eq_zero_iff.1 h0) h⟩
      · exact ⟨_, cap, hv, fun h => absurd (List.length_eq_zero_iff.1 h0) h⟩
    · obtain ⟨g, cap, e, _, _, k⟩ := ownsRow_form o5 h0
      exact ⟨_, cap, e, fun _ => ⟨g, rfl, k⟩⟩
  obtain ⟨aG, cG, eG, kG⟩ := hG
  have c := fun j x (hx : [v.P, v.B, v.L, v.H, v.S, v.G][j]? = some x) => (o0.cellAt j (by have := (List.getElem?_eq_some_iff.1 hx).1; simpa using this)).trans hx
  refine ⟨gP, cP, gB, cB, gL, cL, gH, cH, gS, cS, aG, cG, ?_, ?_, ?_, ?_, ?_, ?_, ?_, ?_, ?_, ?_, ?_, ?_⟩
  · rw [c 0 _ rfl, eP]
  · rw [c 1 _ rfl, eB]
  · rw [c 2 _ rfl, eL]
  · rw [c 3 _ rfl, eH]
  · rw [c 4 _ rfl, eS]
  · rw [c 5 _ rfl, eG]
  · intro j x hx; exact kB j _ (by simp [hx])
  · intro j x hx; exact kL j _ (by simp [placeCells, hx])
  · intro j x hx; exact kH j _ (by simp [hasCells, hx])
  · intro j x hx; exact kS j _ (by simp [hx])
  · intro t l hx
    obtain ⟨u, h1, h2⟩ := rowsS_mem W.prog inner t l hl hx
    have o7 := hf.own (r := ⟨9, 1, u, l.length, l.map Value.string⟩) (by simp [famW, h2])
    simp only at o7
    have hc := kP t u h1
    by_cases h0 : l.length = 0
    · rcases o7.2 with ⟨hv, _⟩ | ⟨g, cap, cur, hv, _⟩
      · exact ⟨none, 0, by rw [hc, hv, h0], fun h => absurd (List.length_eq_zero_iff.1 h0) h⟩
      · exact ⟨_, cap, by rw [hc, hv], fun h => absurd (List.length_eq_zero_iff.1 h0) h⟩
    · obtain ⟨g, cap, e, _, _, k⟩ := ownsRow_form o7 h0
      exact ⟨_, cap, by rw [hc, e], fun _ => ⟨g, rfl, fun j x hx => k j _ (by simp [hx])⟩⟩
  · intro h
    obtain ⟨g, e, k⟩ := kG h
    refine ⟨g, e, fun j x hx => ?_⟩
    obtain ⟨a, b, c, d⟩ := flat_ev W.log j x hx
    exact ⟨k _ _ a, k _ _ b, k _ _ c, k _ _ d⟩

theorem WIn.below {w w' : World} {p : Nat} {W : Wd} {gP cP gB cB gL cL gH cH gS cS : Nat} {aG : Option Addr} {cG : Nat} (h : WIn w p W gP cP gB cB gL cL gH cH gS cS aG cG) (hb : Below w.heap.size w w') : WIn w' p W gP cP gB cB gL cL gH cH gS cS aG cG := by
  have k : ∀ a v, w.cell? a = some v → w'.cell? a = some v := fun a v hc => by
    rw [hb.cell (World.block_lt_of_cell? w _ hc)]; exact hc
  refine ⟨k _ _ h.fP, k _ _ h.fB, k _ _ h.fL, k _ _ h.fH, k _ _ h.fS, k _ _ h.fG, fun j x hx => k _ _ (h.cB' j x hx), fun j x hx => k _ _ (h.cL' j x hx), fun j x hx => k _ _ (h.cH' j x hx), fun j x hx => k _ _ (h.cS' j x hx), fun t l hx => ?_, fun hn => ?_⟩
  · obtain ⟨a, c, h1, h2⟩ := h.cP' t l hx
    exact ⟨a, c, k _ _ h1, fun hl => let ⟨g, e, h3⟩ := h2 hl; ⟨g, e, fun j x hx => k _ _ (h3 j x hx)⟩⟩
  · obtain ⟨g, e, h2⟩ := h.cG' hn
    exact ⟨g, e, fun j x hx => let ⟨a, b, c, d⟩ := h2 j x hx; ⟨k _ _ a, k _ _ b, k _ _ c, k _ _ d⟩⟩
end Go.Proofs.YtdfndcbakcmgiaaDoor
namespace Go.Proofs.YtdfndcbakcmgiaaDoor
open Go.RowKit

theorem conv1 (w : World) (n : Int) : (convert 70 9 (.slice (some ⟨w.heap.size, 0, none⟩) 1 1)).run Tryd.prog (w.alloc (.cells #[.int .u8 n] 5)) = .ok (.string ⟨#[UInt8.ofNat n.toNat]⟩) (w.alloc (.cells #[.int .u8 n] 5)) := by
  refine run_convert_bytes_arg (P := Tryd.prog) (w.alloc (.cells #[.int .u8 n] 5)) 70 5 Tryd.underlying70 Tryd.underlying5 w.heap.size 0 1 1 [n] rfl ?_ 9 Tryd.underlying9
  intro i hi
  have hi0 : i = 0 := by omega
  subst hi0
  rw [cell_of_row _ _ _ _ _ _ (heap_alloc_new w _)]
  rfl
set_option maxHeartbeats 400000 in
theorem name_any (t : Nat) (w : World) (ht : (t : Int) ≤ 100) :
    Calls Tryd.prog 13 #[.int .i64 t] w fun e w' => e = .returned (.string (nameS t)) ∧ Below w.heap.size w w' := by
  have hc := conv1 w (48 + t)
  have hn : (⟨#[UInt8.ofNat ((48 : Int) + t).toNat]⟩ : ByteArray) = nameS t := by
    rw [nameS]; congr 3
  rw [hn] at hc
  clear hn
  go_enter Tryd.func13, Tryd.ntmps13
  go_wp2
  go_ret
  exact ⟨rfl, (Below.refl _ _).alloc (Nat.le_refl _) _⟩

theorem below_drewN (w : World) (n : Nat) : Below w.heap.size w (w.drewN n) := by
  induction n with
  | zero => exact Below.refl _ _
  | succ n ih => exact ih.drew

theorem below_of_drewN {w w1 : World} {n : Nat} (hb : Below (w.drewN n).heap.size (w.drewN n) w1) : Below w.heap.size w w1 := ⟨hb.os, hb.tape, hb.output, hb.size, hb.block⟩
theorem beqI (n m : Nat) : ((n : Int) == (m : Int)) = decide (n = m) := by
  by_cases h : n = m <;> simp [h]
  omega
set_option maxHeartbeats 400000 in
theorem over_any (p t : Nat) (W : Wd) (w : World) {gP cP gB cB gL cL gH cH gS cS : Nat} {aG : Option Addr} {cG : Nat} (h : WIn w p W gP cP gB cB gL cL gH cH gS cS aG cG) (b : Bool) (n : Nat) (l : List ByteArray)
    (hb : W.born[t]? = some b) (hn : W.place[t]? = some n) (hl : W.prog[t]? = some l) :
    Calls Tryd.prog 37 #[.pointer (some ⟨p, 0, none⟩), .int .i64 t] w fun e w' => e = .returned (.bool (b && decide (n = l.length))) ∧ Below w.heap.size w w' := by
  have f1 := h.fB
  have f2 := h.fL
  have f3 := h.fP
  have c1 := h.cB' t b hb
  have c2 := h.cL' t n hn
  obtain ⟨a, c, c3, _⟩ := h.cP' t l hl
  have g1 : t < W.born.length := (List.getElem?_eq_some_iff.1 hb).1
  have g2 : t < W.place.length := (List.getElem?_eq_some_iff.1 hn).1
  have g3 : t < W.prog.length := (List.getElem?_eq_some_iff.1 hl).1
  clear h
  cases b with
  | true =>
    go_enter Tryd.func37, Tryd.ntmps37
    go_wp2
    go_quiet (fail)
    go_wp2
    go_ret
    refine ⟨?_, below_drewN _ _⟩
    show Ending.returned (Value.bool ((n : Int) == (l.length : Int))) = _
    rw [Bool.true_and, beqI]
  | false =>
    go_enter Tryd.func37, Tryd.ntmps37
    go_wp2
    go_quiet (fail)
    go_wp2
    go_ret
    exact ⟨rfl, below_drewN _ _⟩

/-- An instruction's text, as Check lets it by, in a program of n threads. -/
def DOk (n : Nat) (d : ByteArray) : Prop :=
  d.size = wid (byteI d 0) ∧
  (byteI d 0 = 46 ∨ (97 ≤ byteI d 0 ∧ byteI d 0 ≤ 102) ∨ (65 ≤ byteI d 0 ∧ byteI d 0 ≤ 70) ∨ ((byteI d 0 = 33 ∨ byteI d 0 = 126) ∧ 117 ≤ byteI d 1 ∧ byteI d 1 ≤ 122) ∨
   (byteI d 0 = 63 ∧ 117 ≤ byteI d 1 ∧ byteI d 1 ≤ 122 ∧ 49 ≤ byteI d 2 ∧ byteI d 2 ≤ 57) ∨ ((byteI d 0 = 60 ∨ byteI d 0 = 62) ∧ 48 ≤ byteI d 1 ∧ byteI d 1 < 48 + n))
theorem DOk.size {n : Nat} {d : ByteArray} (h : DOk n d) : 1 ≤ d.size := by rw [h.1]; exact (wid_range _).1

/-- The next instruction of a thread. -/
structure At (W : Wd) (t : Nat) (n : Nat) (l : List ByteArray) (d : ByteArray) : Prop where
  born : W.born[t]? = some true
  place : W.place[t]? = some n
  prog : W.prog[t]? = some l
  txt : l[n]? = some d

/-- What a thread is at that asks for a lock which o has. -/
def lockSt (t : Nat) : Option Nat → Int
  | none => 1
  | some u => if u = t then 5 else 2

theorem hasS_none : (hasS none).toList.isEmpty = true := by rw [ByteArray.toList_eq]; rfl
theorem hasS_some (u : Nat) : (hasS (some u)).toList.isEmpty = false := by rw [ByteArray.toList_eq]; rfl
theorem nameS_list (t : Nat) : (nameS t).toList = [UInt8.ofNat (48 + t)] := by rw [ByteArray.toList_eq]; rfl
theorem ofNat_inj {a b : Nat} (ha : a ≤ 200) (hb : b ≤ 200) (h : UInt8.ofNat a = UInt8.ofNat b) : a = b := by
  have := congrArg UInt8.toNat h
  simp only [UInt8.toNat_ofNat'] at this
  omega
theorem hasS_eq (o : Option Nat) (t : Nat) (ht : t ≤ 100) (ho : ∀ u, o = some u → u ≤ 100) : ((hasS o).toList == (nameS t).toList) = decide (o = some t) := by
  cases o with
  | none => rw [nameS_list, ByteArray.toList_eq]; rfl
  | some u =>
    have hu := ho u rfl
    rw [hasS, nameS_list, nameS_list]
    by_cases e : u = t
    · subst e; simp
    · have : ¬ (UInt8.ofNat (48 + u) = UInt8.ofNat (48 + t)) := fun h => by have := ofNat_inj (by omega) (by omega) h; omega
      have h2 : (UInt8.ofNat (48 + u) == UInt8.ofNat (48 + t)) = false := beq_false_of_ne this
      rw [decide_eq_false (fun h => e (Option.some.inj h))]
      show (UInt8.ofNat (48 + u) == UInt8.ofNat (48 + t) && true) = false
      rw [h2]; rfl

/-- The facts of a thread's next instruction in memory. -/
structure AtIn (w : World) (p t : Nat) (W : Wd) (n : Nat) (l : List ByteArray) (d : ByteArray) (gP cP gB cB gL cL gH cH gS cS g c : Nat) : Prop where
  f1 : w.cell? ⟨p, 1, none⟩ = some (.slice (some ⟨gB, 0, none⟩) W.born.length cB)
  f2 : w.cell? ⟨p, 2, none⟩ = some (.slice (some ⟨gL, 0, none⟩) W.place.length cL)
  f3 : w.cell? ⟨p, 0, none⟩ = some (.slice (some ⟨gP, 0, none⟩) W.prog.length cP)
  f4 : w.cell? ⟨p, 3, none⟩ = some (.slice (some ⟨gH, 0, none⟩) W.has.length cH)
  f6 : w.cell? ⟨p, 4, none⟩ = some (.slice (some ⟨gS, 0, none⟩) W.set.length cS)
  c1 : w.cell? ⟨gB, t, none⟩ = some (.bool true)
  c2 : w.cell? ⟨gL, t, none⟩ = some (.int .i64 (n : Int))
  c3 : w.cell? ⟨gP, t, none⟩ = some (.slice (some ⟨g, 0, none⟩) l.length c)
  c5 : w.cell? ⟨g, n, none⟩ = some (.string d)
  g1 : t < W.born.length
  g2 : t < W.place.length
  g3 : t < W.prog.length
  hln : n < l.length
  hne : ((n : Int) == (l.length : Int)) = false
theorem At.into {w : World} {p t : Nat} {W : Wd} {gP cP gB cB gL cL gH cH gS cS : Nat} {aG : Option Addr} {cG : Nat} (h : WIn w p W gP cP gB cB gL cL gH cH gS cS aG cG) {n : Nat} {l : List ByteArray} {d : ByteArray} (A : At W t n l d) :
    ∃ g c, AtIn w p t W n l d gP cP gB cB gL cL gH cH gS cS g c := by
  obtain ⟨a, c, c3, h3⟩ := h.cP' t l A.prog
  have hln : n < l.length := (List.getElem?_eq_some_iff.1 A.txt).1
  obtain ⟨g, rfl, h5⟩ := h3 (by intro e; rw [e] at hln; simp at hln)
  exact ⟨g, c, h.fB, h.fL, h.fP, h.fH, h.fS, h.cB' t _ A.born, h.cL' t n A.place, c3, h5 n d A.txt, (List.getElem?_eq_some_iff.1 A.born).1, (List.getElem?_eq_some_iff.1 A.place).1, (List.getElem?_eq_some_iff.1 A.prog).1, hln, by simp; omega⟩

set_option maxHeartbeats 1000000 in
theorem state_lock (p t : Nat) (W : Wd) (w : World) {gP cP gB cB gL cL gH cH gS cS : Nat} {aG : Option Addr} {cG : Nat} (h : WIn w p W gP cP gB cB gL cL gH cH gS cS aG cG) (ok : W.Ok) {n : Nat} {l : List ByteArray} {d : ByteArray}
    (A : At W t n l d) (ht : (t : Int) ≤ 100) (k : Nat) (hk6 : k < 6) (hd : 0 < d.size) (hk : byteI d 0 = 97 + k) (o : Option Nat) (ho : W.has[k]? = some o) (hou : ∀ u, o = some u → u ≤ 100) :
    Calls Tryd.prog 26 #[.pointer (some ⟨p, 0, none⟩), .int .i64 t] w fun e w' => e = .returned (.int .i64 (lockSt t o)) ∧ Below w.heap.size w w' := by
  obtain ⟨g, c, f1, f2, f3, f4, _, c1, c2, c3, c5, g1, g2, g3, hln, hne⟩ := At.into h A
  have c4 := h.cH' k o ho
  have g4 : k < W.has.length := by rw [ok.nh]; exact hk6
  have hb0 : (d[0].toNat : Int) = 97 + k := by rw [byteI_in hd]; exact hk
  have e1 : atI ⟨#[97, 98, 99, 100, 101, 102]⟩ (97 + k) = k := by rw [atI_lock (by omega) (by omega), atR_yes (by omega) (by omega)]; omega
  have e2 := hasS_eq o t (by omega) hou
  clear h A hk ho hou
  cases o with
  | none =>
    have e3 := hasS_none
    go_enter Tryd.func26, Tryd.ntmps26
    go_wp2
    go_quiet (fail)
    go_wp2
    go_quiet (fail)
    go_wp2_with (first
      | (go_at_call 13; refine (name_any t _ ht).mono ?_; rintro e w1 ⟨rfl, hb1⟩; have hB1 := below_of_drewN hb1; clear hb1; have f5 := cell_later hB1 f4; have c6 := cell_later hB1 c4)
      | (go_at_call 25; refine (at_n _ _ _ (by omega) (by omega) (by decide)).mono ?_; rintro e w2 ⟨rfl, rfl⟩))
    go_ret
    exact ⟨rfl, hB1⟩
  | some u =>
    have e3 := hasS_some u
    by_cases hu : u = t
    · rw [decide_eq_true (by rw [hu])] at e2
      have hl : lockSt t (some u) = 5 := by rw [lockSt, if_pos hu]
      rw [hl]
      clear hl hu
      go_enter Tryd.func26, Tryd.ntmps26
      go_wp2
      go_quiet (fail)
      go_wp2
      go_quiet (fail)
      go_wp2_with (first
        | (go_at_call 13; refine (name_any t _ ht).mono ?_; rintro e w1 ⟨rfl, hb1⟩; have hB1 := below_of_drewN hb1; clear hb1; have f5 := cell_later hB1 f4; have c6 := cell_later hB1 c4)
        | (go_at_call 25; refine (at_n _ _ _ (by omega) (by omega) (by decide)).mono ?_; rintro e w2 ⟨rfl, rfl⟩))
      go_ret
      exact ⟨rfl, hB1⟩
    · rw [decide_eq_false (fun e => hu (by simpa using e))] at e2
      have hl : lockSt t (some u) = 2 := by rw [lockSt, if_neg hu]
      rw [hl]
      clear hl hu
      go_enter Tryd.func26, Tryd.ntmps26
      go_wp2
      go_quiet (fail)
      go_wp2
      go_quiet (fail)
      go_wp2_with (first
        | (go_at_call 13; refine (name_any t _ ht).mono ?_; rintro e w1 ⟨rfl, hb1⟩; have hB1 := below_of_drewN hb1; clear hb1; have f5 := cell_later hB1 f4; have c6 := cell_later hB1 c4)
        | (go_at_call 25; refine (at_n _ _ _ (by omega) (by omega) (by decide)).mono ?_; rintro e w2 ⟨rfl, rfl⟩))
      go_ret
      exact ⟨rfl, hB1⟩

set_option maxHeartbeats 400000 in
theorem state_unborn (p t : Nat) (W : Wd) (w : World) {gP cP gB cB gL cL gH cH gS cS : Nat} {aG : Option Addr} {cG : Nat} (h : WIn w p W gP cP gB cB gL cL gH cH gS cS aG cG) (hb : W.born[t]? = some false) :
    Calls Tryd.prog 26 #[.pointer (some ⟨p, 0, none⟩), .int .i64 t] w fun e w' => e = .returned (.int .i64 0) ∧ Below w.heap.size w w' := by
  have f1 := h.fB
  have c1 := h.cB' t _ hb
  have g1 : t < W.born.length := (List.getElem?_eq_some_iff.1 hb).1
  go_enter Tryd.func26, Tryd.ntmps26
  go_wp2
  go_ret
  exact ⟨rfl, Below.refl _ _⟩

set_option maxHeartbeats 400000 in
theorem state_ended (p t : Nat) (W : Wd) (w : World) {gP cP gB cB gL cL gH cH gS cS : Nat} {aG : Option Addr} {cG : Nat} (h : WIn w p W gP cP gB cB gL cL gH cH gS cS aG cG) (n : Nat) (l : List ByteArray) (hb : W.born[t]? = some true) (hn : W.place[t]? = some n) (hl : W.prog[t]? = some l) (hnl : n = l.length) :
    Calls Tryd.prog 26 #[.pointer (some ⟨p, 0, none⟩), .int .i64 t] w fun e w' => e = .returned (.int .i64 4) ∧ Below w.heap.size w w' := by
  have f1 := h.fB
  have f2 := h.fL
  have f3 := h.fP
  have c1 := h.cB' t _ hb
  have c2 := h.cL' t n hn
  obtain ⟨a, c, c3, _⟩ := h.cP' t l hl
  have g1 : t < W.born.length := (List.getElem?_eq_some_iff.1 hb).1
  have g2 : t < W.place.length := (List.getElem?_eq_some_iff.1 hn).1
  have g3 : t < W.prog.length := (List.getElem?_eq_some_iff.1 hl).1
  have hne : ((n : Int) == (l.length : Int)) = true := by simp; omega
  clear hnl
  go_enter Tryd.func26, Tryd.ntmps26
  go_wp2
  go_quiet (fail)
  go_wp2
  go_ret
  exact ⟨rfl, below_drewN _ _⟩

set_option maxHeartbeats 1000000 in
theorem state_give (p t : Nat) (W : Wd) (w : World) {gP cP gB cB gL cL gH cH gS cS : Nat} {aG : Option Addr} {cG : Nat} (h : WIn w p W gP cP gB cB gL cL gH cH gS cS aG cG) (ok : W.Ok) {n : Nat} {l : List ByteArray} {d : ByteArray}
    (A : At W t n l d) (ht : (t : Int) ≤ 100) (hd : 0 < d.size) (k : Nat) (hk6 : k < 6) (hk : byteI d 0 = 65 + k) (o : Option Nat) (ho : W.has[k]? = some o) (hou : ∀ u, o = some u → u ≤ 100) (v : Int) (hv : v = if o = some t then 1 else 5) :
    Calls Tryd.prog 26 #[.pointer (some ⟨p, 0, none⟩), .int .i64 t] w fun e w' => e = .returned (.int .i64 v) ∧ Below w.heap.size w w' := by
  obtain ⟨g, c, f1, f2, f3, f4, _, c1, c2, c3, c5, g1, g2, g3, hln, hne⟩ := At.into h A
  have c4 := h.cH' k o ho
  have g4 : k < W.has.length := by rw [ok.nh]; exact hk6
  have hb0 : (d[0].toNat : Int) = 65 + k := by rw [byteI_in hd]; exact hk
  have e1 : atI ⟨#[97, 98, 99, 100, 101, 102]⟩ (65 + k) = -1 := by rw [atI_lock (by omega) (by omega), atR_no (by omega)]
  have e2 : atI ⟨#[65, 66, 67, 68, 69, 70]⟩ (65 + k) = k := by rw [atI_give (by omega) (by omega), atR_yes (by omega) (by omega)]; omega
  have e3 := hasS_eq o t (by omega) hou
  have b62 : ((65 : Int) + k == 62) = false := by simp; omega
  have b60 : ((65 : Int) + k == 60) = false := by simp; omega
  clear h A hk ho hou
  by_cases hu : o = some t
  · rw [if_pos hu] at hv
    rw [decide_eq_true hu] at e3
    subst hv
    clear hu
    go_enter Tryd.func26, Tryd.ntmps26
    go_wp2
    go_quiet (fail)
    go_wp2
    go_quiet (fail)
    go_wp2_with (first
      | (go_at_call 13; refine (name_any t _ ht).mono ?_; rintro e w1 ⟨rfl, hb1⟩; have hB1 := below_of_drewN hb1; clear hb1; have f5 := cell_later hB1 f4; have f6 := cell_later hB1 f1; have c6 := cell_later hB1 c4)
      | (go_at_call 25; refine (at_n _ _ _ (by omega) (by omega) (by decide)).mono ?_; rintro e w2 ⟨rfl, rfl⟩))
    go_quiet (fail)
    go_wp2
    go_ret
    exact ⟨rfl, hB1.trans ((below_drewN _ _).mono hB1.size)⟩
  · rw [if_neg hu] at hv
    rw [decide_eq_false hu] at e3
    subst hv
    clear hu
    go_enter Tryd.func26, Tryd.ntmps26
    go_wp2
    go_quiet (fail)
    go_wp2
    go_quiet (fail)
    go_wp2_with (first
      | (go_at_call 13; refine (name_any t _ ht).mono ?_; rintro e w1 ⟨rfl, hb1⟩; have hB1 := below_of_drewN hb1; clear hb1; have f5 := cell_later hB1 f4; have c6 := cell_later hB1 c4)
      | (go_at_call 25; refine (at_n _ _ _ (by omega) (by omega) (by decide)).mono ?_; rintro e w2 ⟨rfl, rfl⟩))
    go_ret
    exact ⟨rfl, hB1⟩

/-- Every other instruction: nothing bars it. -/
theorem state_plain (p t : Nat) (W : Wd) (w : World) {gP cP gB cB gL cL gH cH gS cS : Nat} {aG : Option Addr} {cG : Nat} (h : WIn w p W gP cP gB cB gL cL gH cH gS cS aG cG) {n : Nat} {l : List ByteArray} {d : ByteArray}
    (A : At W t n l d) (ht : (t : Int) ≤ 100) (hd : 0 < d.size) (h0 : 0 ≤ byteI d 0) (h255 : byteI d 0 ≤ 255) (k1 : byteI d 0 < 97 ∨ 103 ≤ byteI d 0) (k2 : byteI d 0 < 65 ∨ 71 ≤ byteI d 0) (k3 : byteI d 0 ≠ 62) (k4 : byteI d 0 ≠ 60) :
    Calls Tryd.prog 26 #[.pointer (some ⟨p, 0, none⟩), .int .i64 t] w fun e w' => e = .returned (.int .i64 1) ∧ Below w.heap.size w w' := by
  obtain ⟨g, c, f1, f2, f3, f4, _, c1, c2, c3, c5, g1, g2, g3, hln, hne⟩ := At.into h A
  have e1 : atI ⟨#[97, 98, 99, 100, 101, 102]⟩ (byteI d 0) = -1 := (atI_lock (by omega) (by omega)).trans (atR_no (by omega))
  have e2 : atI ⟨#[65, 66, 67, 68, 69, 70]⟩ (byteI d 0) = -1 := (atI_give (by omega) (by omega)).trans (atR_no (by omega))
  have hb0 := byteI_in hd
  have b62 : (byteI d 0 == 62) = false := by simpa using k3
  have b60 : (byteI d 0 == 60) = false := by simpa using k4
  clear h A
  go_enter Tryd.func26, Tryd.ntmps26
  go_wp2
  go_quiet (fail)
  go_wp2
  go_quiet (fail)
  go_wp2_with (first
    | (go_at_call 13; refine (name_any t _ ht).mono ?_; rintro e w1 ⟨rfl, hb1⟩; have hB1 := below_of_drewN hb1; clear hb1)
    | (go_at_call 25; refine (at_n _ _ _ (by omega) (by omega) (by decide)).mono ?_; rintro e w2 ⟨rfl, rfl⟩))
  go_quiet (fail)
  go_wp2
  go_ret
  exact ⟨rfl, hB1.trans ((below_drewN _ _).mono hB1.size)⟩

set_option maxHeartbeats 1000000 in
theorem state_start (p t : Nat) (W : Wd) (w : World) {gP cP gB cB gL cL gH cH gS cS : Nat} {aG : Option Addr} {cG : Nat} (h : WIn w p W gP cP gB cB gL cL gH cH gS cS aG cG) {n : Nat} {l : List ByteArray} {d : ByteArray}
    (A : At W t n l d) (ht : (t : Int) ≤ 100) (hd : 0 < d.size) (hd1 : 1 < d.size) (k3 : byteI d 0 = 62) (j : Nat) (hj : byteI d 1 = 48 + j) (hj9 : j ≤ 9) (b : Bool) (hb : W.born[j]? = some b) (v : Int) (hv : v = if b = true then 5 else 1) :
    Calls Tryd.prog 26 #[.pointer (some ⟨p, 0, none⟩), .int .i64 t] w fun e w' => e = .returned (.int .i64 v) ∧ Below w.heap.size w w' := by
  obtain ⟨g, c, f1, f2, f3, f4, _, c1, c2, c3, c5, g1, g2, g3, hln, hne⟩ := At.into h A
  have e1 : atI ⟨#[97, 98, 99, 100, 101, 102]⟩ 62 = -1 := (atI_lock (by omega) (by omega)).trans (atR_no (by omega))
  have e2 : atI ⟨#[65, 66, 67, 68, 69, 70]⟩ 62 = -1 := (atI_give (by omega) (by omega)).trans (atR_no (by omega))
  have hb0 : (d[0].toNat : Int) = 62 := by rw [byteI_in hd]; exact k3
  have hb1 : (d[1].toNat : Int) = 48 + j := by rw [byteI_in hd1]; exact hj
  have cj := h.cB' j b hb
  have gj : j < W.born.length := (List.getElem?_eq_some_iff.1 hb).1
  clear h A hj k3 hb
  cases b with
  | true =>
    simp only [if_true] at hv
    subst hv
    go_enter Tryd.func26, Tryd.ntmps26
    go_wp2
    go_quiet (fail)
    go_wp2
    go_quiet (fail)
    go_wp2_with (first
      | (go_at_call 13; refine (name_any t _ ht).mono ?_; rintro e w1 ⟨rfl, hb1⟩; have hB1 := below_of_drewN hb1; clear hb1; have f7 := cell_later hB1 f1; have c7 := cell_later hB1 cj)
      | (go_at_call 25; refine (at_n _ _ _ (by omega) (by omega) (by decide)).mono ?_; rintro e w2 ⟨rfl, rfl⟩))
    go_quiet (fail)
    go_wp2
    go_ret
    exact ⟨rfl, hB1.trans ((below_drewN _ _).mono hB1.size)⟩
  | false =>
    simp only [Bool.false_eq_true, if_false] at hv
    subst hv
    go_enter Tryd.func26, Tryd.ntmps26
    go_wp2
    go_quiet (fail)
    go_wp2
    go_quiet (fail)
    go_wp2_with (first
      | (go_at_call 13; refine (name_any t _ ht).mono ?_; rintro e w1 ⟨rfl, hb1⟩; have hB1 := below_of_drewN hb1; clear hb1; have f7 := cell_later hB1 f1; have c7 := cell_later hB1 cj)
      | (go_at_call 25; refine (at_n _ _ _ (by omega) (by omega) (by decide)).mono ?_; rintro e w2 ⟨rfl, rfl⟩))
    go_quiet (fail)
    go_wp2
    go_ret
    exact ⟨rfl, hB1.trans ((below_drewN _ _).mono hB1.size)⟩

set_option maxHeartbeats 1000000 in
theorem state_join (p t : Nat) (W : Wd) (w : World) {gP cP gB cB gL cL gH cH gS cS : Nat} {aG : Option Addr} {cG : Nat} (h : WIn w p W gP cP gB cB gL cL gH cH gS cS aG cG) {n : Nat} {l : List ByteArray} {d : ByteArray}
    (A : At W t n l d) (ht : (t : Int) ≤ 100) (hd : 0 < d.size) (hd1 : 1 < d.size) (k3 : byteI d 0 = 60) (j : Nat) (hj : byteI d 1 = 48 + j) (hj9 : j ≤ 9) (b : Bool) (m : Nat) (l' : List ByteArray) (hb : W.born[j]? = some b) (hm : W.place[j]? = some m) (hl' : W.prog[j]? = some l')
    (v : Int) (hv : v = if (b && decide (m = l'.length)) = true then 1 else 3) :
    Calls Tryd.prog 26 #[.pointer (some ⟨p, 0, none⟩), .int .i64 t] w fun e w' => e = .returned (.int .i64 v) ∧ Below w.heap.size w w' := by
  obtain ⟨g, c, f1, f2, f3, f4, _, c1, c2, c3, c5, g1, g2, g3, hln, hne⟩ := At.into h A
  have e1 : atI ⟨#[97, 98, 99, 100, 101, 102]⟩ 60 = -1 := (atI_lock (by omega) (by omega)).trans (atR_no (by omega))
  have e2 : atI ⟨#[65, 66, 67, 68, 69, 70]⟩ 60 = -1 := (atI_give (by omega) (by omega)).trans (atR_no (by omega))
  have hb0 : (d[0].toNat : Int) = 60 := by rw [byteI_in hd]; exact k3
  have hb1 : (d[1].toNat : Int) = 48 + j := by rw [byteI_in hd1]; exact hj
  have hover : ∀ (wx : World) (i : Int), i = j → Below w.heap.size w wx → Calls Tryd.prog 37 #[.pointer (some ⟨p, 0, none⟩), .int .i64 i] wx fun e w' => e = .returned (.bool (b && decide (m = l'.length))) ∧ Below wx.heap.size wx w' :=
    fun wx i hi hx => by subst hi; exact over_any p j W wx (h.below hx) b m l' hb hm hl'
  generalize (b && decide (m = l'.length)) = r at hv hover
  clear h A hj k3 hb hm hl'
  cases r with
  | true =>
    simp only [if_true] at hv
    subst hv
    go_enter Tryd.func26, Tryd.ntmps26
    go_wp2
    go_quiet (fail)
    go_wp2
    go_quiet (fail)
    go_wp2_with (first
      | (go_at_call 13; refine (name_any t _ ht).mono ?_; rintro e w1 ⟨rfl, hb1⟩; have hB1 := below_of_drewN hb1; clear hb1)
      | (go_at_call 25; refine (at_n _ _ _ (by omega) (by omega) (by decide)).mono ?_; rintro e w2 ⟨rfl, rfl⟩))
    go_quiet (fail)
    go_wp2_with (go_at_call 37; refine (hover _ _ (by omega) (hB1.trans ((below_drewN _ _).mono hB1.size))).mono ?_; rintro e w3 ⟨rfl, hb3⟩)
    go_ret
    exact ⟨rfl, (hB1.trans ((below_drewN _ _).mono hB1.size)).trans (hb3.mono (Nat.le_trans hB1.size (Nat.le_refl _)))⟩
  | false =>
    simp only [Bool.false_eq_true, if_false] at hv
    subst hv
    go_enter Tryd.func26, Tryd.ntmps26
    go_wp2
    go_quiet (fail)
    go_wp2
    go_quiet (fail)
    go_wp2_with (first
      | (go_at_call 13; refine (name_any t _ ht).mono ?_; rintro e w1 ⟨rfl, hb1⟩; have hB1 := below_of_drewN hb1; clear hb1)
      | (go_at_call 25; refine (at_n _ _ _ (by omega) (by omega) (by decide)).mono ?_; rintro e w2 ⟨rfl, rfl⟩))
    go_quiet (fail)
    go_wp2_with (go_at_call 37; refine (hover _ _ (by omega) (hB1.trans ((below_drewN _ _).mono hB1.size))).mono ?_; rintro e w3 ⟨rfl, hb3⟩)
    go_ret
    exact ⟨rfl, (hB1.trans ((below_drewN _ _).mono hB1.size)).trans (hb3.mono (Nat.le_trans hB1.size (Nat.le_refl _)))⟩
end Go.Proofs.YtdfndcbakcmgiaaDoor
