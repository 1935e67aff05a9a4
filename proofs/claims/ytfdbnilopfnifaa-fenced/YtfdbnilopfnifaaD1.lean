import Derived.Test.YtfdbnilopfnifaaC3
namespace Go.Proofs.Ytfdbnilopfnifaa
open Go.RowKit

/-! Rows that a call owns, each in a block of its own; a row may be nil. -/

def Apart (a b : RowD) : Prop := a.v.ownBlock ≠ b.v.ownBlock ∨ a.v.ownBlock = none
theorem Apart.symm {a b : RowD} (h : Apart a b) : Apart b a := by
  unfold Apart at *
  rcases h with h | h
  · exact .inl (Ne.symm h)
  · by_cases hb : b.v.ownBlock = none
    · exact .inr hb
    · exact .inl (by rw [h]; exact hb)
def RowD.owned (w : World) (B : Nat) (r : RowD) : Prop := w.ownsRow B r.e r.size r.v r.n r.xs
def Fams (w : World) (B : Nat) (fam : List RowD) : Prop := (∀ r ∈ fam, r.owned w B) ∧ fam.Pairwise Apart

theorem Fams.perm {w : World} {B : Nat} {f f' : List RowD} (h : Fams w B f) (hp : f.Perm f') : Fams w B f' :=
  ⟨fun r hr => h.1 r (hp.mem_iff.2 hr), (hp.pairwise_iff (fun hab => Apart.symm hab)).1 h.2⟩
theorem Fams.own {w : World} {B : Nat} {r : RowD} {f : List RowD} (h : Fams w B f) (hm : r ∈ f) : w.ownsRow B r.e r.size r.v r.n r.xs := h.1 r hm
theorem Fams.tail {w : World} {B : Nat} {r : RowD} {f : List RowD} (h : Fams w B (r :: f)) : Fams w B f :=
  ⟨fun x hx => h.1 x (List.mem_cons_of_mem _ hx), (List.pairwise_cons.1 h.2).2⟩
theorem Fams.nil (w : World) (B : Nat) : Fams w B [] := ⟨by simp, List.Pairwise.nil⟩

theorem Fams.head {w w' : World} {B : Nat} {r r' : RowD} {f : List RowD} (h : Fams w B (r :: f)) (hg : w.grownBy w' r.v.ownBlock) (hf : Fresh w r.v r'.v) (ha : r'.owned w' B) : Fams w' B (r' :: f) := by
  obtain ⟨h1, h2⟩ := h
  rw [List.pairwise_cons] at h2
  have hother : ∀ x ∈ f, x.v.ownBlock = none ∨ x.v.ownBlock ≠ r.v.ownBlock := fun x hx => by
    rcases (h2.1 x hx).symm with h | h
    · exact .inr h
    · exact .inl h
  refine ⟨fun x hx => ?_, ?_⟩
  · rcases List.mem_cons.1 hx with rfl | hx
    · exact ha
    · exact World.ownsRow.kept (h1 x (List.mem_cons_of_mem _ hx)) hg (hother x hx)
  · rw [List.pairwise_cons]
    refine ⟨fun x hx => ?_, h2.2⟩
    rcases hf with e | ⟨g, e, hgw⟩
    · rcases h2.1 x hx with h | h
      · exact .inl (by rw [e]; exact h)
      · exact .inr (by rw [e]; exact h)
    · refine .inl ?_
      rw [e]
      intro hh
      have := (World.ownsRow.lt (h1 x (List.mem_cons_of_mem _ hx)) g hh.symm).2
      omega

theorem Fams.kept {w w' : World} {B : Nat} {f : List RowD} (h : Fams w B f) (hg : w.grownBy w' none) : Fams w' B f :=
  ⟨fun r hr => World.ownsRow.kept (h.1 r hr) hg (by cases hv : r.v.ownBlock <;> simp), h.2⟩
theorem Fams.alloc {w : World} {B : Nat} {f : List RowD} (h : Fams w B f) (o : Obj) : Fams (w.alloc o) B f := h.kept (World.grownBy_alloc w o none)
theorem Fams.below {w w' : World} {B : Nat} {f : List RowD} (h : Fams w B f) (hb : Below w.heap.size w w') : Fams w' B f := h.kept (grownBy_of_below hb)
theorem Fams.drew {w : World} {B : Nat} {f : List RowD} (h : Fams w B f) : Fams w.drew B f := h.below (Below.refl _ _).drew

theorem Fams.lit {w : World} {B : Nat} {f : List RowD} (h : Fams w B f) (hB : B ≤ w.heap.size) (e : TypeId) (size : Nat) (cs : Array Value) (n : Nat) (hm : n ≤ maxLen) (hs : cs.size = n * size) :
    Fams (w.alloc (.cells cs e)) B (⟨e, size, .slice (some ⟨w.heap.size, 0, none⟩) n n, n, cs.toList⟩ :: f) := by
  have h' := h.alloc (.cells cs e)
  refine ⟨fun x hx => ?_, ?_⟩
  · rcases List.mem_cons.1 hx with rfl | hx
    · exact World.ownsRow_lit w cs n hB hm hs
    · exact h'.1 x hx
  · rw [List.pairwise_cons]
    refine ⟨fun x hx => .inl ?_, h'.2⟩
    intro hh
    have := (World.ownsRow.lt (h.1 x hx) w.heap.size (by rw [← hh]; rfl)).2
    omega
/-- A row that lies wholly in blocks that were not there. -/
theorem Fams.add {w w' : World} {B : Nat} {f : List RowD} {r : RowD} (h : Fams w B f) (hb : Below w.heap.size w w') (ho : r.owned w' w.heap.size) (hB : B ≤ w.heap.size) : Fams w' B (r :: f) := by
  have h' := h.below hb
  refine ⟨fun x hx => ?_, ?_⟩
  · rcases List.mem_cons.1 hx with rfl | hx
    · obtain ⟨h1, h2⟩ := ho
      refine ⟨h1, ?_⟩
      rcases h2 with h2 | ⟨g, cap, cur, a, b, c⟩
      · exact .inl h2
      · exact .inr ⟨g, cap, cur, a, Nat.le_trans hB b, c⟩
    · exact h'.1 x hx
  · rw [List.pairwise_cons]
    refine ⟨fun x hx => ?_, h'.2⟩
    cases hr : r.v.ownBlock with
    | none => exact .inr hr
    | some k =>
      refine .inl ?_
      rw [hr]
      intro hh
      have h1 := (World.ownsRow.lt ho k hr).1
      have h2 := (World.ownsRow.lt (h.1 x hx) k hh.symm).2
      omega
theorem Fams.addNil {w : World} {B : Nat} {f : List RowD} (h : Fams w B f) (e : TypeId) (size : Nat) : Fams w B (⟨e, size, .slice none 0 0, 0, []⟩ :: f) := by
  refine ⟨fun x hx => ?_, ?_⟩
  · rcases List.mem_cons.1 hx with rfl | hx
    · exact World.ownsRow_nil _ _ _ _
    · exact h.1 x hx
  · rw [List.pairwise_cons]
    exact ⟨fun x _ => .inr rfl, h.2⟩

/-- A store into a row that is not nil. -/
theorem Fams.store {w : World} {B : Nat} {e : TypeId} {size g n cap : Nat} {xs : List Value} {f : List RowD} (h : Fams w B (⟨e, size, .slice (some ⟨g, 0, none⟩) n cap, n, xs⟩ :: f)) (j : Nat) (u : Value) :
    Fams (w.setCell ⟨g, j, none⟩ u) B (⟨e, size, .slice (some ⟨g, 0, none⟩) n cap, n, xs.set j u⟩ :: f) := by
  have ho := h.own (List.mem_cons_self ..)
  have hs := World.ownsRow.stored ho j u
  exact Fams.head h hs.2 (.inl rfl) hs.1

/-! The reference's world. -/
/-- A thread's digit. -/
def nameS (t : Nat) : ByteArray := ⟨#[UInt8.ofNat (48 + t)]⟩
/-- Who has a lock, as a text. -/
def hasS : Option Nat → ByteArray
  | none => ⟨#[]⟩
  | some t => nameS t
structure Ev where
  thread : Int
  place : Int
  txt : ByteArray
  holds : ByteArray
def evCells (x : Ev) : List Value := [.int .i64 x.thread, .int .i64 x.place, .string x.txt, .string x.holds]
structure Wd where
  prog : List (List ByteArray)
  born : List Bool
  place : List Nat
  has : List (Option Nat)
  set : List Bool
  log : List Ev

def placeCells (l : List Nat) : List Value := l.map fun (n : Nat) => Value.int .i64 (n : Int)
def hasCells (l : List (Option Nat)) : List Value := l.map fun o => Value.string (hasS o)
def rowsS : List (List ByteArray) → List Value → List RowD
  | l :: ls, v :: vs => ⟨9, 1, v, l.length, l.map Value.string⟩ :: rowsS ls vs
  | _, _ => []
/-- The values of the six fields. -/
structure Six where
  P : Value
  B : Value
  L : Value
  H : Value
  S : Value
  G : Value
def famW (p : Nat) (W : Wd) (v : Six) (inner : List Value) : List RowD :=
  ⟨85, 1, .slice (some ⟨p, 0, none⟩) 6 6, 6, [v.P, v.B, v.L, v.H, v.S, v.G]⟩ ::
  ⟨4, 1, v.B, W.born.length, W.born.map Value.bool⟩ ::
  ⟨3, 1, v.L, W.place.length, placeCells W.place⟩ ::
  ⟨9, 1, v.H, W.has.length, hasCells W.has⟩ ::
  ⟨4, 1, v.S, W.set.length, W.set.map Value.bool⟩ ::
  ⟨128, 4, v.G, W.log.length, W.log.flatMap evCells⟩ ::
  ⟨76, 1, v.P, W.prog.length, inner⟩ :: rowsS W.prog inner

/-- The world W lies behind the pointer to block p, all of it in blocks of the call's own. -/
def RepW (w : World) (B p : Nat) (W : Wd) : Prop := ∃ v inner, inner.length = W.prog.length ∧ Fams w B (famW p W v inner)

theorem RepW.below {w w' : World} {B p : Nat} {W : Wd} (h : RepW w B p W) (hb : Below w.heap.size w w') : RepW w' B p W := by
  obtain ⟨v, inner, hl, hf⟩ := h
  exact ⟨v, inner, hl, hf.below hb⟩

/-- What is read of a world that is not nil in any of its parts but, perhaps, the log. -/
structure WIn (w : World) (p : Nat) (W : Wd) (gP cP gB cB gL cL gH cH gS cS : Nat) (aG : Option Addr) (cG : Nat) : Prop where
  fP : w.cell? ⟨p, 0, none⟩ = some (.slice (some ⟨gP, 0, none⟩) W.prog.length cP)
  fB : w.cell? ⟨p, 1, none⟩ = some (.slice (some ⟨gB, 0, none⟩) W.born.length cB)
  fL : w.cell? ⟨p, 2, none⟩ = some (.slice (some ⟨gL, 0, none⟩) W.place.length cL)
  fH : w.cell? ⟨p, 3, none⟩ = some (.slice (some ⟨gH, 0, none⟩) W.has.length cH)
  fS : w.cell? ⟨p, 4, none⟩ = some (.slice (some ⟨gS, 0, none⟩) W.set.length cS)
  fG : w.cell? ⟨p, 5, none⟩ = some (.slice aG W.log.length cG)
  cB' : ∀ j x, W.born[j]? = some x → w.cell? ⟨gB, j, none⟩ = some (.bool x)
  cL' : ∀ (j : Nat) (x : Nat), W.place[j]? = some x → w.cell? ⟨gL, j, none⟩ = some (.int .i64 (x : Int))
  cH' : ∀ j x, W.has[j]? = some x → w.cell? ⟨gH, j, none⟩ = some (.string (hasS x))
  cS' : ∀ j x, W.set[j]? = some x → w.cell? ⟨gS, j, none⟩ = some (.bool x)
  cP' : ∀ t l, W.prog[t]? = some l → ∃ a c, w.cell? ⟨gP, t, none⟩ = some (.slice a l.length c) ∧ (l ≠ [] → ∃ g, a = some ⟨g, 0, none⟩ ∧ ∀ j x, l[j]? = some x → w.cell? ⟨g, j, none⟩ = some (.string x))
  cG' : W.log ≠ [] → ∃ g, aG = some ⟨g, 0, none⟩ ∧ ∀ j x, W.log[j]? = some x → w.cell? ⟨g, 4 * j, none⟩ = some (.int .i64 x.thread) ∧ w.cell? ⟨g, 4 * j + 1, none⟩ = some (.int .i64 x.place) ∧ w.cell? ⟨g, 4 * j + 2, none⟩ = some (.string x.txt) ∧ w.cell? ⟨g, 4 * j + 3, none⟩ = some (.string x.holds)

/-- The slice of a row that is not empty lies somewhere. -/
theorem ownsRow_form {w : World} {B : Nat} {e : TypeId} {size n : Nat} {v : Value} {xs : List Value} (h : w.ownsRow B e size v n xs) (hn : n ≠ 0) :
    ∃ g cap, v = .slice (some ⟨g, 0, none⟩) n cap ∧ B ≤ g ∧ g < w.heap.size ∧ ∀ j x, xs[j]? = some x → w.cell? ⟨g, j, none⟩ = some x := by
  rcases h.2 with ⟨_, h0⟩ | ⟨g, cap, cur, hv, hb, hg, _⟩
  · exact absurd h0 hn
  · refine ⟨g, cap, hv, hb, (Array.getElem?_eq_some_iff.1 hg).1, fun j x hx => ?_⟩
    have hj : j < n * size := by rw [← h.1]; exact (List.getElem?_eq_some_iff.1 hx).1
    rw [hv] at h
    rw [h.cellAt j hj, hx]

theorem flat_ev : ∀ (l : List Ev) (j : Nat) (x : Ev), l[j]? = some x →
    (l.flatMap evCells)[4 * j]? = some (.int .i64 x.thread) ∧ (l.flatMap evCells)[4 * j + 1]? = some (.int .i64 x.place) ∧ (l.flatMap evCells)[4 * j + 2]? = some (.string x.txt) ∧ (l.flatMap evCells)[4 * j + 3]? = some (.string x.holds)
  | [], _, _, h => by simp at h
  | a :: l, 0, x, h => by
    simp at h; subst h
    simp [evCells]
  | a :: l, j + 1, x, h => by
    have := flat_ev l j x (by simpa using h)
    have e : 4 * (j + 1) = 4 * j + 4 := by omega
    rw [e]
    simpa [evCells] using this

theorem rowsS_mem : ∀ (L : List (List ByteArray)) (vs : List Value) (t : Nat) (l : List ByteArray), vs.length = L.length → L[t]? = some l → ∃ v, vs[t]? = some v ∧ (⟨9, 1, v, l.length, l.map Value.string⟩ : RowD) ∈ rowsS L vs
  | [], _, _, _, _, h => by simp at h
  | _ :: _, [], _, _, h, _ => by simp at h
  | a :: L, b :: vs, 0, l, _, h => by
    simp at h; subst h
    exact ⟨b, rfl, List.mem_cons_self ..⟩
  | a :: L, b :: vs, t + 1, l, hl, h => by
    obtain ⟨v, h1, h2⟩ := rowsS_mem L vs t l (by simpa using hl) (by simpa using h)
    exact ⟨v, by simpa using h1, List.mem_cons_of_mem _ h2⟩

/-- The shape of a world that the reference makes: as many places as threads, six locks, six flags. -/
structure Wd.Ok (W : Wd) : Prop where
  np : W.prog.length ≠ 0
  nb : W.born.length = W.prog.length
  nl : W.place.length = W.prog.length
  nh : W.has.length = 6
  ns : W.set.length = 6

theorem RepW.wIn {w : World} {B p : Nat} {W : Wd} (h : RepW w B p W) (ok : W.Ok) : ∃ gP cP gB cB gL cL gH cH gS cS aG cG, WIn w p W gP cP gB cB gL cL gH cH gS cS aG cG := by
  obtain ⟨v, inner, hl, hf⟩ := h
  have o0 := hf.own (r := ⟨85, 1, .slice (some ⟨p, 0, none⟩) 6 6, 6, [v.P, v.B, v.L, v.H, v.S, v.G]⟩) (by simp [famW])
  have o1 := hf.own (r := ⟨4, 1, v.B, W.born.length, W.born.map Value.bool⟩) (by simp [famW])
  have o2 := hf.own (r := ⟨3, 1, v.L, W.place.length, placeCells W.place⟩) (by simp [famW])
  have o3 := hf.own (r := ⟨9, 1, v.H, W.has.length, hasCells W.has⟩) (by simp [famW])
  have o4 := hf.own (r := ⟨4, 1, v.S, W.set.length, W.set.map Value.bool⟩) (by simp [famW])
  have o5 := hf.own (r := ⟨128, 4, v.G, W.log.length, W.log.flatMap evCells⟩) (by simp [famW])
  have o6 := hf.own (r := ⟨76, 1, v.P, W.prog.length, inner⟩) (by simp [famW])
  simp only at o0 o1 o2 o3 o4 o5 o6
  obtain ⟨gB, cB, eB, _, _, kB⟩ := ownsRow_form o1 (by have := ok.nb; have := ok.np; omega)
  obtain ⟨gL, cL, eL, _, _, kL⟩ := ownsRow_form o2 (by have := ok.nl; have := ok.np; omega)
  obtain ⟨gH, cH, eH, _, _, kH⟩ := ownsRow_form o3 (by have := ok.nh; omega)
  obtain ⟨gS, cS, eS, _, _, kS⟩ := ownsRow_form o4 (by have := ok.ns; omega)
  obtain ⟨gP, cP, eP, _, _, kP⟩ := ownsRow_form o6 ok.np
  have hG : ∃ aG cG, v.G = .slice aG W.log.length cG ∧ (W.log ≠ [] → ∃ g, aG = some ⟨g, 0, none⟩ ∧ ∀ j x, (W.log.flatMap evCells)[j]? = some x → w.cell? ⟨g, j, none⟩ = some x) := by
    by_cases h0 : W.log.length = 0
    · rcases o5.2 with ⟨hv, _⟩ | ⟨g, cap, cur, hv, _⟩
      · exact ⟨none, 0, by rw [hv, h0], fun h => absurd (List.length_eq_zero_iff.1 h0) h⟩
      · exact ⟨_, cap, hv, fun h => absurd (List.length_eq_zero_iff.1 h0) h⟩
    · obtain ⟨g, cap, e, _, _, k⟩ := ownsRow_form o5 h0
      exact ⟨_, cap, e, fun _ => ⟨g, rfl, k⟩⟩
  obtain ⟨aG, cG, eG, kG⟩ := hG
  have c := fun j x (hx : [v.P, v.B, v.L, v.H, v.S, v.G][j]? = some x) => (o0.cellAt j (by have := (List.getElem?_eq_some_iff.1 hx).1; simpa using this)).trans hx
  refine ⟨gP, cP, gB, cB, gL, cL, gH, cH, gS, cS, aG, cG, ?_, ?_, ?_, ?_, ?_, ?_, ?_, ?_, ?_, ?_, ?_, ?_⟩
  · rw [c 0 _ rfl, eP]
  · rw [c 1 _ rfl, eB]
  · rw [c 2 _ rfl, eL]
  · rw [c 3 _ rfl, eH]
  · rw [c 4 _ rfl, eS]
  · rw [c 5 _ rfl, eG]
  · intro j x hx; exact kB j _ (by simp [hx])
  · intro j x hx; exact kL j _ (by simp [placeCells, hx])
  · intro j x hx; exact kH j _ (by simp [hasCells, hx])
  · intro j x hx; exact kS j _ (by simp [hx])
  · intro t l hx
    obtain ⟨u, h1, h2⟩ := rowsS_mem W.prog inner t l hl hx
    have o7 := hf.own (r := ⟨9, 1, u, l.length, l.map Value.string⟩) (by simp [famW, h2])
    simp only at o7
    have hc := kP t u h1
    by_cases h0 : l.length = 0
    · rcases o7.2 with ⟨hv, _⟩ | ⟨g, cap, cur, hv, _⟩
      · exact ⟨none, 0, by rw [hc, hv, h0], fun h => absurd (List.length_eq_zero_iff.1 h0) h⟩
      · exact ⟨_, cap, by rw [hc, hv], fun h => absurd (List.length_eq_zero_iff.1 h0) h⟩
    · obtain ⟨g, cap, e, _, _, k⟩ := ownsRow_form o7 h0
      exact ⟨_, cap, by rw [hc, e], fun _ => ⟨g, rfl, fun j x hx => k j _ (by simp [hx])⟩⟩
  · intro h
    obtain ⟨g, e, k⟩ := kG h
    refine ⟨g, e, fun j x hx => ?_⟩
    obtain ⟨a, b, c, d⟩ := flat_ev W.log j x hx
    exact ⟨k _ _ a, k _ _ b, k _ _ c, k _ _ d⟩

theorem WIn.below {w w' : World} {p : Nat} {W : Wd} {gP cP gB cB gL cL gH cH gS cS : Nat} {aG : Option Addr} {cG : Nat} (h : WIn w p W gP cP gB cB gL cL gH cH gS cS aG cG) (hb : Below w.heap.size w w') : WIn w' p W gP cP gB cB gL cL gH cH gS cS aG cG := by
  have k : ∀ a v, w.cell? a = some v → w'.cell? a = some v := fun a v hc => by
    rw [hb.cell (World.block_lt_of_cell? w _ hc)]; exact hc
  refine ⟨k _ _ h.fP, k _ _ h.fB, k _ _ h.fL, k _ _ h.fH, k _ _ h.fS, k _ _ h.fG, fun j x hx => k _ _ (h.cB' j x hx), fun j x hx => k _ _ (h.cL' j x hx), fun j x hx => k _ _ (h.cH' j x hx), fun j x hx => k _ _ (h.cS' j x hx), fun t l hx => ?_, fun hn => ?_⟩
  · obtain ⟨a, c, h1, h2⟩ := h.cP' t l hx
    exact ⟨a, c, k _ _ h1, fun hl => let ⟨g, e, h3⟩ := h2 hl; ⟨g, e, fun j x hx => k _ _ (h3 j x hx)⟩⟩
  · obtain ⟨g, e, h2⟩ := h.cG' hn
    exact ⟨g, e, fun j x hx => let ⟨a, b, c, d⟩ := h2 j x hx; ⟨k _ _ a, k _ _ b, k _ _ c, k _ _ d⟩⟩
end Go.Proofs.Ytfdbnilopfnifaa
