import Derived.Test.YtdfndcbakcmgiabDoorC1
import Derived.Deep.RegionHeld3
import Derived.Deep.QuietTactic
import Derived.BigQuiet
import Derived.Deep.AppendLies
import Derived.Deep.DrawnRows
import Derived.Deep.RegionLaw
import Derived.Deep.DeepCutAuto
namespace Go.Proofs.YtdfndcbakcmgiabDoor
open Go.RowKit

/-! Rows that a call owns, each in a block of its own; a row may be nil. -/

def Apart (a b : RowD) : Prop := a.v.ownBlock ≠ b.v.ownBlock ∨ a.v.ownBlock = none
theorem Apart.symm {a b : RowD} (h : Apart a b) : Apart b a := by
  unfold Apart at *
  rcases h with h | h
  · exact .inl (Ne.symm h)
  · by_cases hb : b.v.ownBlock = none
    · exact .inr hb
    · exact .inl (by rw [h]; exact hb)
def RowD.owned (w : World) (B : Nat) (r : RowD) : Prop := w.ownsRow B r.e r.size r.v r.n r.xs
def Fams (w : World) (B : Nat) (fam : List RowD) : Prop := (∀ r ∈ fam, r.owned w B) ∧ fam.Pairwise Apart

theorem Fams.perm {w : World} {B : Nat} {f f' : List RowD} (h : Fams w B f) (hp : f.Perm f') : Fams w B f' :=
  ⟨fun r hr => h.1 r (hp.mem_iff.2 hr), (hp.pairwise_iff (fun hab => Apart.symm hab)).1 h.2⟩
theorem Fams.own {w : World} {B : Nat} {r : RowD} {f : List RowD} (h : Fams w B f) (hm : r ∈ f) : w.ownsRow B r.e r.size r.v r.n r.xs := h.1 r hm
theorem Fams.tail {w : World} {B : Nat} {r : RowD} {f : List RowD} (h : Fams w B (r :: f)) : Fams w B f :=
  ⟨fun x hx => h.1 x (List.mem_cons_of_mem _ hx), (List.pairwise_cons.1 h.2).2⟩
theorem Fams.nil (w : World) (B : Nat) : Fams w B [] := ⟨by simp, List.Pairwise.nil⟩

theorem Fams.head {w w' : World} {B : Nat} {r r' : RowD} {f : List RowD} (h : Fams w B (r :: f)) (hg : w.grownBy w' r.v.ownBlock) (hf : Fresh w r.v r'.v) (ha : r'.owned w' B) : Fams w' B (r' :: f) := by
  obtain ⟨h1, h2⟩ := h
  rw [List.pairwise_cons] at h2
  have hother : ∀ x ∈ f, x.v.ownBlock = none ∨ x.v.ownBlock ≠ r.v.ownBlock := fun x hx => by
    rcases (h2.1 x hx).symm with h | h
    · exact .inr h
    · exact .inl h
  refine ⟨fun x hx => ?_, ?_⟩
  · rcases List.mem_cons.1 hx with rfl | hx
    · exact ha
    · exact World.ownsRow.kept (h1 x (List.mem_cons_of_mem _ hx)) hg (hother x hx)
  · rw [List.pairwise_cons]
    refine ⟨fun x hx => ?_, h2.2⟩
    rcases hf with e | ⟨g, e, hgw⟩
    · rcases h2.1 x hx with h | h
      · exact .inl (by rw [e]; exact h)
      · exact .inr (by rw [e]; exact h)
    · refine .inl ?_
      rw [e]
      intro hh
      have := (World.ownsRow.lt (h1 x (List.mem_cons_of_mem _ hx)) g hh.symm).2
      omega

theorem Fams.kept {w w' : World} {B : Nat} {f : List RowD} (h : Fams w B f) (hg : w.grownBy w' none) : Fams w' B f :=
  ⟨fun r hr => World.ownsRow.kept (h.1 r hr) hg (by cases hv : r.v.ownBlock <;> simp), h.2⟩
theorem Fams.alloc {w : World} {B : Nat} {f : List RowD} (h : Fams w B f) (o : Obj) : Fams (w.alloc o) B f := h.kept (World.grownBy_alloc w o none)
theorem Fams.below {w w' : World} {B : Nat} {f : List RowD} (h : Fams w B f) (hb : Below w.heap.size w w') : Fams w' B f := h.kept (grownBy_of_below hb)
theorem Fams.drew {w : World} {B : Nat} {f : List RowD} (h : Fams w B f) : Fams w.drew B f := h.below (Below.refl _ _).drew

theorem Fams.lit {w : World} {B : Nat} {f : List RowD} (h : Fams w B f) (hB : B ≤ w.heap.size) (e : TypeId) (size : Nat) (cs : Array Value) (n : Nat) (hm : n ≤ maxLen) (hs : cs.size = n * size) :
    Fams (w.alloc (.cells cs e)) B (⟨e, size, .slice (some ⟨w.heap.size, 0, none⟩) n n, n, cs.toList⟩ :: f) := by
  have h' := h.alloc (.cells cs e)
  refine ⟨fun x hx => ?_, ?_⟩
  · rcases List.mem_cons.1 hx with rfl | hx
    · exact World.ownsRow_lit w cs n hB hm hs
    · exact h'.1 x hx
  · rw [List.pairwise_cons]
    refine ⟨fun x hx => .inl ?_, h'.2⟩
    intro hh
    have := (World.ownsRow.lt (h.1 x hx) w.heap.size (by rw [← hh]; rfl)).2
    omega
/-- A row that lies wholly in blocks that were not there. -/
theorem Fams.add {w w' : World} {B : Nat} {f : List RowD} {r : RowD} (h : Fams w B f) (hb : Below w.heap.size w w') (ho : r.owned w' w.heap.size) (hB : B ≤ w.heap.size) : Fams w' B (r :: f) := by
  have h' := h.below hb
  refine ⟨fun x hx => ?_, ?_⟩
  · rcases List.mem_cons.1 hx with rfl | hx
    · obtain ⟨h1, h2⟩ := ho
      refine ⟨h1, ?_⟩
      rcases h2 with h2 | ⟨g, cap, cur, a, b, c⟩
      · exact .inl h2
      · exact .inr ⟨g, cap, cur, a, Nat.le_trans hB b, c⟩
    · exact h'.1 x hx
  · rw [List.pairwise_cons]
    refine ⟨fun x hx => ?_, h'.2⟩
    cases hr : r.v.ownBlock with
    | none => exact .inr hr
    | some k =>
      refine .inl ?_
      rw [hr]
      intro hh
      have h1 := (World.ownsRow.lt ho k hr).1
      have h2 := (World.ownsRow.lt (h.1 x hx) k hh.symm).2
      omega
theorem Fams.addNil {w : World} {B : Nat} {f : List RowD} (h : Fams w B f) (e : TypeId) (size : Nat) : Fams w B (⟨e, size, .slice none 0 0, 0, []⟩ :: f) := by
  refine ⟨fun x hx => ?_, ?_⟩
  · rcases List.mem_cons.1 hx with rfl | hx
    · exact World.ownsRow_nil _ _ _ _
    · exact h.1 x hx
  · rw [List.pairwise_cons]
    exact ⟨fun x _ => .inr rfl, h.2⟩

/-- A store into a row that is not nil. -/
theorem Fams.store {w : World} {B : Nat} {e : TypeId} {size g n cap : Nat} {xs : List Value} {f : List RowD} (h : Fams w B (⟨e, size, .slice (some ⟨g, 0, none⟩) n cap, n, xs⟩ :: f)) (j : Nat) (u : Value) :
    Fams (w.setCell ⟨g, j, none⟩ u) B (⟨e, size, .slice (some ⟨g, 0, none⟩) n cap, n, xs.set j u⟩ :: f) := by
  have ho := h.own (List.mem_cons_self ..)
  have hs := World.ownsRow.stored ho j u
  exact Fams.head h hs.2 (.inl rfl) hs.1

/-! The reference's world. -/
/-- A thread's digit. -/
def nameS (t : Nat) : ByteArray := ⟨#[UInt8.ofNat (48 + t)]⟩
/-- Who has a lock, as a text. -/
def hasS : Option Nat → ByteArray
  | none => ⟨#[]⟩
  | some t => nameS t
structure Ev where
  thread : Int
  place : Int
  txt : ByteArray
  holds : ByteArray
def evCells (x : Ev) : List Value := [.int .i64 x.thread, .int .i64 x.place, .string x.txt, .string x.holds]
structure Wd where
  prog : List (List ByteArray)
  born : List Bool
  place : List Nat
  has : List (Option Nat)
  set : List Bool
  log : List Ev

def placeCells (l : List Nat) : List Value := l.map fun (n : Nat) => Value.int .i64 (n : Int)
def hasCells (l : List (Option Nat)) : List Value := l.map fun o => Value.string (hasS o)
def rowsS : List (List ByteArray) → List Value → List RowD
  | l :: ls, v :: vs => ⟨9, 1, v, l.length, l.map Value.string⟩ :: rowsS ls vs
  | _, _ => []
/-- The values of the six fields. -/
structure Six where
  P : Value
  B : Value
  L : Value
  H : Value
  S : Value
  G : Value
/-- What is read of a world that is not nil in any of its parts but, perhaps, the log. -/
structure WIn (w : World) (p : Nat) (W : Wd) (gP cP gB cB gL cL gH cH gS cS : Nat) (aG : Option Addr) (cG : Nat) : Prop where
  fP : w.cell? ⟨p, 0, none⟩ = some (.slice (some ⟨gP, 0, none⟩) W.prog.length cP)
  fB : w.cell? ⟨p, 1, none⟩ = some (.slice (some ⟨gB, 0, none⟩) W.born.length cB)
  fL : w.cell? ⟨p, 2, none⟩ = some (.slice (some ⟨gL, 0, none⟩) W.place.length cL)
  fH : w.cell? ⟨p, 3, none⟩ = some (.slice (some ⟨gH, 0, none⟩) W.has.length cH)
  fS : w.cell? ⟨p, 4, none⟩ = some (.slice (some ⟨gS, 0, none⟩) W.set.length cS)
  fG : w.cell? ⟨p, 5, none⟩ = some (.slice aG W.log.length cG)
  cB' : ∀ j x, W.born[j]? = some x → w.cell? ⟨gB, j, none⟩ = some (.bool x)
  cL' : ∀ (j : Nat) (x : Nat), W.place[j]? = some x → w.cell? ⟨gL, j, none⟩ = some (.int .i64 (x : Int))
  cH' : ∀ j x, W.has[j]? = some x → w.cell? ⟨gH, j, none⟩ = some (.string (hasS x))
  cS' : ∀ j x, W.set[j]? = some x → w.cell? ⟨gS, j, none⟩ = some (.bool x)
  cP' : ∀ t l, W.prog[t]? = some l → ∃ a c, w.cell? ⟨gP, t, none⟩ = some (.slice a l.length c) ∧ (l ≠ [] → ∃ g, a = some ⟨g, 0, none⟩ ∧ ∀ j x, l[j]? = some x → w.cell? ⟨g, j, none⟩ = some (.string x))
  cG' : W.log ≠ [] → ∃ g, aG = some ⟨g, 0, none⟩ ∧ ∀ j x, W.log[j]? = some x → w.cell? ⟨g, 4 * j, none⟩ = some (.int .i64 x.thread) ∧ w.cell? ⟨g, 4 * j + 1, none⟩ = some (.int .i64 x.place) ∧ w.cell? ⟨g, 4 * j + 2, none⟩ = some (.string x.txt) ∧ w.cell? ⟨g, 4 * j + 3, none⟩ = some (.string x.holds)

/-- The slice of a row that is not empty lies somewhere. -/
theorem ownsRow_form {w : World} {B : Nat} {e : TypeId} {size n : Nat} {v : Value} {xs : List Value} (h : w.ownsRow B e size v n xs) (hn : n ≠ 0) :
    ∃ g cap, v = .slice (some ⟨g, 0, none⟩) n cap ∧ B ≤ g ∧ g < w.heap.size ∧ ∀ j x, xs[j]? = some x → w.cell? ⟨g, j, none⟩ = some x := by
  rcases h.2 with ⟨_, h0⟩ | ⟨g, cap, cur, hv, hb, hg, _⟩
  · exact absurd h0 hn
  · refine ⟨g, cap, hv, hb, (Array.getElem?_eq_some_iff.1 hg).1, fun j x hx => ?_⟩
    have hj : j < n * size := by rw [← h.1]; exact (List.getElem?_eq_some_iff.1 hx).1
    rw [hv] at h
    rw [h.cellAt j hj, hx]

theorem flat_ev : ∀ (l : List Ev) (j : Nat) (x : Ev), l[j]? = some x →
    (l.flatMap evCells)[4 * j]? = some (.int .i64 x.thread) ∧ (l.flatMap evCells)[4 * j + 1]? = some (.int .i64 x.place) ∧ (l.flatMap evCells)[4 * j + 2]? = some (.string x.txt) ∧ (l.flatMap evCells)[4 * j + 3]? = some (.string x.holds)
  | [], _, _, h => by simp at h
  | a :: l, 0, x, h => by
    simp at h; subst h
    simp [evCells]
  | a :: l, j + 1, x, h => by
    have := flat_ev l j x (by simpa using h)
    have e : 4 * (j + 1) = 4 * j + 4 := by omega
    rw [e]
    simpa [evCells] using this

theorem rowsS_mem : ∀ (L : List (List ByteArray)) (vs : List Value) (t : Nat) (l : List ByteArray), vs.length = L.length → L[t]? = some l → ∃ v, vs[t]? = some v ∧ (⟨9, 1, v, l.length, l.map Value.string⟩ : RowD) ∈ rowsS L vs
  | [], _, _, _, _, h => by simp at h
  | _ :: _, [], _, _, h, _ => by simp at h
  | a :: L, b :: vs, 0, l, _, h => by
    simp at h; subst h
    exact ⟨b, rfl, List.mem_cons_self ..⟩
  | a :: L, b :: vs, t + 1, l, hl, h => by
    obtain ⟨v, h1, h2⟩ := rowsS_mem L vs t l (by simpa using hl) (by simpa using h)
    exact ⟨v, by simpa using h1, List.mem_cons_of_mem _ h2⟩

/-- The shape of a world that the reference makes: as many places as threads, six locks, six flags. -/
structure Wd.Ok (W : Wd) : Prop where
  np : W.prog.length ≠ 0
  nb : W.born.length = W.prog.length
  nl : W.place.length = W.prog.length
  nh : W.has.length = 6
  ns : W.set.length = 6

theorem WIn.below {w w' : World} {p : Nat} {W : Wd} {gP cP gB cB gL cL gH cH gS cS : Nat} {aG : Option Addr} {cG : Nat} (h : WIn w p W gP cP gB cB gL cL gH cH gS cS aG cG) (hb : Below w.heap.size w w') : WIn w' p W gP cP gB cB gL cL gH cH gS cS aG cG := by
  have k : ∀ a v, w.cell? a = some v → w'.cell? a = some v := fun a v hc => by
    rw [hb.cell (World.block_lt_of_cell? w _ hc)]; exact hc
  refine ⟨k _ _ h.fP, k _ _ h.fB, k _ _ h.fL, k _ _ h.fH, k _ _ h.fS, k _ _ h.fG, fun j x hx => k _ _ (h.cB' j x hx), fun j x hx => k _ _ (h.cL' j x hx), fun j x hx => k _ _ (h.cH' j x hx), fun j x hx => k _ _ (h.cS' j x hx), fun t l hx => ?_, fun hn => ?_⟩
  · obtain ⟨a, c, h1, h2⟩ := h.cP' t l hx
    exact ⟨a, c, k _ _ h1, fun hl => let ⟨g, e, h3⟩ := h2 hl; ⟨g, e, fun j x hx => k _ _ (h3 j x hx)⟩⟩
  · obtain ⟨g, e, h2⟩ := h.cG' hn
    exact ⟨g, e, fun j x hx => let ⟨a, b, c, d⟩ := h2 j x hx; ⟨k _ _ a, k _ _ b, k _ _ c, k _ _ d⟩⟩
end Go.Proofs.YtdfndcbakcmgiabDoor
namespace Go.Proofs.YtdfndcbakcmgiabDoor
open Go.RowKit

theorem conv1 (w : World) (n : Int) : (convert 47 9 (.slice (some ⟨w.heap.size, 0, none⟩) 1 1)).run Tryd.prog (w.alloc (.cells #[.int .u8 n] 5)) = .ok (.string ⟨#[UInt8.ofNat n.toNat]⟩) (w.alloc (.cells #[.int .u8 n] 5)) := by
  refine run_convert_bytes_arg (P := Tryd.prog) (w.alloc (.cells #[.int .u8 n] 5)) 47 5 Tryd.underlying47 Tryd.underlying5 w.heap.size 0 1 1 [n] rfl ?_ 9 Tryd.underlying9
  intro i hi
  have hi0 : i = 0 := by omega
  subst hi0
  rw [cell_of_row _ _ _ _ _ _ (heap_alloc_new w _)]
  rfl
theorem below_drewN (w : World) (n : Nat) : Below w.heap.size w (w.drewN n) := by
  induction n with
  | zero => exact Below.refl _ _
  | succ n ih => exact ih.drew

theorem below_of_drewN {w w1 : World} {n : Nat} (hb : Below (w.drewN n).heap.size (w.drewN n) w1) : Below w.heap.size w w1 := ⟨hb.os, hb.tape, hb.output, hb.size, hb.block⟩
theorem beqI (n m : Nat) : ((n : Int) == (m : Int)) = decide (n = m) := by
  by_cases h : n = m <;> simp [h]
  omega
/-- An instruction's text, as Check lets it by, in a program of n threads. -/
def DOk (n : Nat) (d : ByteArray) : Prop :=
  d.size = wid (byteI d 0) ∧
  (byteI d 0 = 46 ∨ (97 ≤ byteI d 0 ∧ byteI d 0 ≤ 102) ∨ (65 ≤ byteI d 0 ∧ byteI d 0 ≤ 70) ∨ ((byteI d 0 = 33 ∨ byteI d 0 = 126) ∧ 117 ≤ byteI d 1 ∧ byteI d 1 ≤ 122) ∨
   (byteI d 0 = 63 ∧ 117 ≤ byteI d 1 ∧ byteI d 1 ≤ 122 ∧ 49 ≤ byteI d 2 ∧ byteI d 2 ≤ 57) ∨ ((byteI d 0 = 60 ∨ byteI d 0 = 62) ∧ 48 ≤ byteI d 1 ∧ byteI d 1 < 48 + n))
theorem DOk.size {n : Nat} {d : ByteArray} (h : DOk n d) : 1 ≤ d.size := by rw [h.1]; exact (wid_range _).1

/-- The next instruction of a thread. -/
structure At (W : Wd) (t : Nat) (n : Nat) (l : List ByteArray) (d : ByteArray) : Prop where
  born : W.born[t]? = some true
  place : W.place[t]? = some n
  prog : W.prog[t]? = some l
  txt : l[n]? = some d

/-- What a thread is at that asks for a lock which o has. -/
def lockSt (t : Nat) : Option Nat → Int
  | none => 1
  | some u => if u = t then 5 else 2

theorem hasS_none : (hasS none).toList.isEmpty = true := by rw [ByteArray.toList_eq]; rfl
theorem hasS_some (u : Nat) : (hasS (some u)).toList.isEmpty = false := by rw [ByteArray.toList_eq]; rfl
theorem nameS_list (t : Nat) : (nameS t).toList = [UInt8.ofNat (48 + t)] := by rw [ByteArray.toList_eq]; rfl
theorem ofNat_inj {a b : Nat} (ha : a ≤ 200) (hb : b ≤ 200) (h : UInt8.ofNat a = UInt8.ofNat b) : a = b := by
  have := congrArg UInt8.toNat h
  simp only [UInt8.toNat_ofNat'] at this
  omega
theorem hasS_eq (o : Option Nat) (t : Nat) (ht : t ≤ 100) (ho : ∀ u, o = some u → u ≤ 100) : ((hasS o).toList == (nameS t).toList) = decide (o = some t) := by
  cases o with
  | none => rw [nameS_list, ByteArray.toList_eq]; rfl
  | some u =>
    have hu := ho u rfl
    rw [hasS, nameS_list, nameS_list]
    by_cases e : u = t
    · subst e; simp
    · have : ¬ (UInt8.ofNat (48 + u) = UInt8.ofNat (48 + t)) := fun h => by have := ofNat_inj (by omega) (by omega) h; omega
      have h2 : (UInt8.ofNat (48 + u) == UInt8.ofNat (48 + t)) = false := beq_false_of_ne this
      rw [decide_eq_false (fun h => e (Option.some.inj h))]
      show (UInt8.ofNat (48 + u) == UInt8.ofNat (48 + t) && true) = false
      rw [h2]; rfl

/-- The facts of a thread's next instruction in memory. -/
structure AtIn (w : World) (p t : Nat) (W : Wd) (n : Nat) (l : List ByteArray) (d : ByteArray) (gP cP gB cB gL cL gH cH gS cS g c : Nat) : Prop where
  f1 : w.cell? ⟨p, 1, none⟩ = some (.slice (some ⟨gB, 0, none⟩) W.born.length cB)
  f2 : w.cell? ⟨p, 2, none⟩ = some (.slice (some ⟨gL, 0, none⟩) W.place.length cL)
  f3 : w.cell? ⟨p, 0, none⟩ = some (.slice (some ⟨gP, 0, none⟩) W.prog.length cP)
  f4 : w.cell? ⟨p, 3, none⟩ = some (.slice (some ⟨gH, 0, none⟩) W.has.length cH)
  f6 : w.cell? ⟨p, 4, none⟩ = some (.slice (some ⟨gS, 0, none⟩) W.set.length cS)
  c1 : w.cell? ⟨gB, t, none⟩ = some (.bool true)
  c2 : w.cell? ⟨gL, t, none⟩ = some (.int .i64 (n : Int))
  c3 : w.cell? ⟨gP, t, none⟩ = some (.slice (some ⟨g, 0, none⟩) l.length c)
  c5 : w.cell? ⟨g, n, none⟩ = some (.string d)
  g1 : t < W.born.length
  g2 : t < W.place.length
  g3 : t < W.prog.length
  hln : n < l.length
  hne : ((n : Int) == (l.length : Int)) = false
theorem At.into {w : World} {p t : Nat} {W : Wd} {gP cP gB cB gL cL gH cH gS cS : Nat} {aG : Option Addr} {cG : Nat} (h : WIn w p W gP cP gB cB gL cL gH cH gS cS aG cG) {n : Nat} {l : List ByteArray} {d : ByteArray} (A : At W t n l d) :
    ∃ g c, AtIn w p t W n l d gP cP gB cB gL cL gH cH gS cS g c := by
  obtain ⟨a, c, c3, h3⟩ := h.cP' t l A.prog
  have hln : n < l.length := (List.getElem?_eq_some_iff.1 A.txt).1
  obtain ⟨g, rfl, h5⟩ := h3 (by intro e; rw [e] at hln; simp at hln)
  exact ⟨g, c, h.fB, h.fL, h.fP, h.fH, h.fS, h.cB' t _ A.born, h.cL' t n A.place, c3, h5 n d A.txt, (List.getElem?_eq_some_iff.1 A.born).1, (List.getElem?_eq_some_iff.1 A.place).1, (List.getElem?_eq_some_iff.1 A.prog).1, hln, by simp; omega⟩

end Go.Proofs.YtdfndcbakcmgiabDoor
namespace Go.Proofs.YtdfndcbakcmgiabDoor
open Go.RowKit

def overOf (W : Wd) (j : Nat) : Bool := W.born[j]?.getD false && decide (W.place[j]?.getD 0 = (W.prog[j]?.getD []).length)
/-- What a thread is at whose next instruction is d. -/
def doSt (W : Wd) (t : Nat) (d : ByteArray) : Int :=
  if 97 ≤ byteI d 0 ∧ byteI d 0 ≤ 102 then lockSt t (W.has[(byteI d 0 - 97).toNat]?.getD none)
  else if 65 ≤ byteI d 0 ∧ byteI d 0 ≤ 70 then (if W.has[(byteI d 0 - 65).toNat]?.getD none = some t then 1 else 5)
  else if byteI d 0 = 62 then (if W.born[(byteI d 1 - 48).toNat]?.getD false = true then 5 else 1)
  else if byteI d 0 = 60 then (if overOf W (byteI d 1 - 48).toNat = true then 1 else 3)
  else 1
/-- What thread t is at. -/
def stateOf (W : Wd) (t : Nat) : Int :=
  if W.born[t]?.getD false = true then
    match (W.prog[t]?.getD [])[W.place[t]?.getD 0]? with
    | none => 4
    | some d => doSt W t d
  else 0

structure Wd.Good (W : Wd) : Prop where
  ok : W.Ok
  n5 : W.prog.length ≤ 5
  dok : ∀ (t : Nat) (l : List ByteArray) (j : Nat) (d : ByteArray), W.prog[t]? = some l → l[j]? = some d → DOk W.prog.length d
  pl : ∀ (t : Nat) (l : List ByteArray) (n : Nat), W.prog[t]? = some l → W.place[t]? = some n → n ≤ l.length
  len : ∀ (t : Nat) (l : List ByteArray), W.prog[t]? = some l → l.length ≤ 12
  has : ∀ (k u : Nat), W.has[k]? = some (some u) → u < W.prog.length

theorem get_some {α : Type} (l : List α) (j : Nat) (h : j < l.length) : ∃ x, l[j]? = some x := ⟨l[j], by simp [h]⟩

/-- The locks of thread t, as letters, from lock k on. -/
def holdsLoop (has : List (Option Nat)) (t : Nat) (k : Nat) (acc : ByteArray) : ByteArray :=
  if k < 6 then holdsLoop has t (k + 1) (if has[k]?.getD none = some t then acc ++ lockS.extract k (k + 1) else acc) else acc
termination_by 6 - k
def holdsOf (W : Wd) (t : Nat) : ByteArray := holdsLoop W.has t 0 ⟨#[]⟩

end Go.Proofs.YtdfndcbakcmgiabDoor
namespace Go.Proofs.YtdfndcbakcmgiabDoor
open Go.RowKit

theorem stateOf_at (W : Wd) (t : Nat) (h0 : stateOf W t ≠ 0) (h4 : stateOf W t ≠ 4) (G : W.Good) (ht : t < W.prog.length) : ∃ n l d, At W t n l d ∧ stateOf W t = doSt W t d := by
  obtain ⟨b, hb⟩ := get_some W.born t (by rw [G.ok.nb]; exact ht)
  obtain ⟨n, hn⟩ := get_some W.place t (by rw [G.ok.nl]; exact ht)
  obtain ⟨l, hl⟩ := get_some W.prog t ht
  have e : stateOf W t = if b = true then (match l[n]? with | none => 4 | some d => doSt W t d) else 0 := by
    unfold stateOf; rw [hb, hn, hl]; rfl
  cases b with
  | false => exact absurd (by rw [e]; rfl) h0
  | true =>
    cases hd : l[n]? with
    | none => exact absurd (by rw [e, hd]; rfl) h4
    | some d => exact ⟨n, l, d, ⟨hb, hn, hl, hd⟩, by rw [e, hd]; rfl⟩

theorem lockSt_two {t : Nat} {o : Option Nat} (h : lockSt t o = 2) : ∃ u, o = some u ∧ u ≠ t := by
  cases o with
  | none => simp [lockSt] at h
  | some u =>
    refine ⟨u, rfl, fun e => ?_⟩
    rw [lockSt, if_pos e] at h
    omega
theorem lockSt_val (t : Nat) (o : Option Nat) : lockSt t o = 1 ∨ lockSt t o = 5 ∨ lockSt t o = 2 := by
  cases o with
  | none => exact .inl rfl
  | some u => unfold lockSt; simp only; split <;> omega

theorem doSt_wants {W : Wd} {t : Nat} {d : ByteArray} (h : doSt W t d = 2) : (97 ≤ byteI d 0 ∧ byteI d 0 ≤ 102) ∧ lockSt t (W.has[(byteI d 0 - 97).toNat]?.getD none) = 2 := by
  unfold doSt at h
  split at h
  · exact ⟨by assumption, h⟩
  repeat' split at h
  all_goals omega
theorem doSt_joins {W : Wd} {t : Nat} {d : ByteArray} (h : doSt W t d = 3) : byteI d 0 = 60 ∧ overOf W (byteI d 1 - 48).toNat = false := by
  unfold doSt at h
  split at h
  · have := lockSt_val t (W.has[(byteI d 0 - 97).toNat]?.getD none); omega
  split at h
  · split at h <;> omega
  split at h
  · split at h <;> omega
  split at h
  · rename_i hc
    split at h
    · omega
    · rename_i ho; exact ⟨hc, by simpa using ho⟩
  · omega

/-- For which thread thread t waits, or -1. -/
def waitsOf (W : Wd) (t : Nat) : Int :=
  if stateOf W t = 2 then
    match W.has[(byteI ((W.prog[t]?.getD [])[W.place[t]?.getD 0]?.getD ⟨#[]⟩) 0 - 97).toNat]?.getD none with
    | some u => (u : Int)
    | none => -1
  else if stateOf W t = 3 then byteI ((W.prog[t]?.getD [])[W.place[t]?.getD 0]?.getD ⟨#[]⟩) 1 - 48
  else -1

theorem nameS_byte (u : Nat) (hu : u ≤ 100) (h : 0 < (nameS u).size) : ((nameS u)[0].toNat : Int) = 48 + u := by
  show ((UInt8.ofNat (48 + u)).toNat : Int) = _
  rw [UInt8.toNat_ofNat']
  omega
theorem nameS_size (u : Nat) : (nameS u).size = 1 := rfl

end Go.Proofs.YtdfndcbakcmgiabDoor
namespace Go.Proofs.YtdfndcbakcmgiabDoor
open Go.RowKit

/-- What is known of the values and the blocks. -/
structure Forms (W : Wd) (v : Six) (gP cP gB cB gL cL gH cH gS cS : Nat) : Prop where
  eP : v.P = .slice (some ⟨gP, 0, none⟩) W.prog.length cP
  eB : v.B = .slice (some ⟨gB, 0, none⟩) W.born.length cB
  eL : v.L = .slice (some ⟨gL, 0, none⟩) W.place.length cL
  eH : v.H = .slice (some ⟨gH, 0, none⟩) W.has.length cH
  eS : v.S = .slice (some ⟨gS, 0, none⟩) W.set.length cS
/-- The cells, as they are read and may be written, in a world in which the family stands. -/
structure XIn (w : World) (p : Nat) (x : Value) (W : Wd) (gP cP gB cB gL cL gH cH gS cS : Nat) : Prop where
  fP : w.cell? ⟨p, 0, none⟩ = some (.slice (some ⟨gP, 0, none⟩) W.prog.length cP)
  fB : w.cell? ⟨p, 1, none⟩ = some (.slice (some ⟨gB, 0, none⟩) W.born.length cB)
  fL : w.cell? ⟨p, 2, none⟩ = some (.slice (some ⟨gL, 0, none⟩) W.place.length cL)
  fH : w.cell? ⟨p, 3, none⟩ = some (.slice (some ⟨gH, 0, none⟩) W.has.length cH)
  fS : w.cell? ⟨p, 4, none⟩ = some (.slice (some ⟨gS, 0, none⟩) W.set.length cS)
  fG : w.cell? ⟨p, 5, none⟩ = some x
  cB' : ∀ j y, W.born[j]? = some y → w.cell? ⟨gB, j, none⟩ = some (.bool y)
  cL' : ∀ (j : Nat) (y : Nat), W.place[j]? = some y → w.cell? ⟨gL, j, none⟩ = some (.int .i64 (y : Int))
  cH' : ∀ j y, W.has[j]? = some y → w.cell? ⟨gH, j, none⟩ = some (.string (hasS y))
  cS' : ∀ j y, W.set[j]? = some y → w.cell? ⟨gS, j, none⟩ = some (.bool y)
  cP' : ∀ t l, W.prog[t]? = some l → ∃ a c, w.cell? ⟨gP, t, none⟩ = some (.slice a l.length c) ∧ (l ≠ [] → ∃ g, a = some ⟨g, 0, none⟩ ∧ ∀ j y, l[j]? = some y → w.cell? ⟨g, j, none⟩ = some (.string y))
  zp : ∀ j, w.frozen? ⟨p, j, none⟩ = false
  zB : ∀ j, w.frozen? ⟨gB, j, none⟩ = false
  zL : ∀ j, w.frozen? ⟨gL, j, none⟩ = false
  zH : ∀ j, w.frozen? ⟨gH, j, none⟩ = false
  zS : ∀ j, w.frozen? ⟨gS, j, none⟩ = false
  dLp : gL ≠ p
  dHp : gH ≠ p
  dBp : gB ≠ p
  dSp : gS ≠ p
  dPp : gP ≠ p
  dHL : gH ≠ gL
  dBL : gB ≠ gL
  dSL : gS ≠ gL
  dPL : gP ≠ gL

theorem apart_of {f : List RowD} (h : f.Pairwise Apart) (i j : Nat) (a b : RowD) (hij : i < j) (hi : f[i]? = some a) (hj : f[j]? = some b) : Apart a b := by
  have := (List.pairwise_iff_getElem.1 h) i j (List.getElem?_eq_some_iff.1 hi).1 (List.getElem?_eq_some_iff.1 hj).1 hij
  rw [(List.getElem?_eq_some_iff.1 hi).2, (List.getElem?_eq_some_iff.1 hj).2] at this
  exact this

theorem swap2 {α : Type} (a b : α) (l : List α) : (a :: b :: l).Perm (b :: a :: l) := List.Perm.swap b a l
theorem perm1 (a b : RowD) (l : List RowD) : (a :: b :: l).Perm (b :: a :: l) := List.Perm.swap b a l
theorem perm2 (a b c : RowD) (l : List RowD) : (a :: b :: c :: l).Perm (c :: a :: b :: l) := List.perm_middle (l₁ := [a, b])
theorem perm3 (a b c d : RowD) (l : List RowD) : (a :: b :: c :: d :: l).Perm (d :: a :: b :: c :: l) := List.perm_middle (l₁ := [a, b, c])
theorem perm4 (a b c d e : RowD) (l : List RowD) : (a :: b :: c :: d :: e :: l).Perm (e :: a :: b :: c :: d :: l) := List.perm_middle (l₁ := [a, b, c, d])

theorem Fams.drewN {w : World} {B : Nat} {f : List RowD} (h : Fams w B f) (n : Nat) : Fams (w.drewN n) B f := h.below (below_drewN w n)
/-- A cell that was there, behind a draw, a new block and an append to another row. -/
theorem cell_append {w w2 : World} {o : Obj} {row : Option Nat} {a : Addr} {u : Value} (hg : ((w.alloc o).drew).grownBy w2 row) (hc : w.cell? a = some u) (hne : some a.block ≠ row) : w2.cell? a = some u := by
  have hlt := World.block_lt_of_cell? w _ hc
  rw [hg.cell_far a (by show a.block < (w.heap.push o).size; simp; omega) hne]
  exact cell_later ((Below.refl _ _).alloc (Nat.le_refl _) _).drew hc
theorem frozen_append {w w2 : World} {o : Obj} {row : Option Nat} {a : Addr} {u : Value} (hg : ((w.alloc o).drew).grownBy w2 row) (hc : w.cell? a = some u) (hz : w.frozen? a = false) (hne : some a.block ≠ row) : w2.frozen? a = false := by
  have hlt := World.block_lt_of_cell? w _ hc
  rw [hg.frozen_far a (by show a.block < (w.heap.push o).size; simp; omega) hne]
  rw [(((Below.refl w.heap.size w).alloc (Nat.le_refl _) o).drew).frozen hlt]
  exact hz
theorem frozen_later {w wx : World} {a : Addr} {v : Value} (hb : Below w.heap.size w wx) (h : w.cell? a = some v) (hz : w.frozen? a = false) : wx.frozen? a = false :=
  (hb.frozen (World.block_lt_of_cell? _ _ h)).trans hz
end Go.Proofs.YtdfndcbakcmgiabDoor
namespace Go.Proofs.YtdfndcbakcmgiabDoor
open Go.RowKit
attribute [local go_sem ↓] Go.wp_at_zero Go.wp_at_succ

theorem info_split {P : Program} {e : TypeId} {z : Value} {size bytes : Nat} (hinf : (P.info? e).map (fun i => (i.zero, i.size, i.bytes)) = some (some z, size, bytes)) : ∃ i, P.info? e = some i ∧ i.zero = some z ∧ i.size = size ∧ i.bytes = bytes := by
  obtain ⟨i, hi, hii⟩ := Option.map_eq_some_iff.1 hinf
  simp only [Prod.mk.injEq] at hii
  exact ⟨i, hi, hii.1, hii.2.1, hii.2.2⟩


theorem Fams.below_drew {w wx : World} {B : Nat} {f : List RowD} (h : Fams w B f) (hb : Below w.heap.size w wx) : Fams wx B f := h.below hb

/-- The world behind the first part of a move: the event is logged, the place raised. -/
def stepped (W : Wd) (t n : Nat) (d hs : ByteArray) : Wd := { W with log := W.log ++ [⟨t, n, d, hs⟩], place := W.place.set t (n + 1) }

theorem cell_set_other {w : World} {g j : Nat} {u x : Value} {a : Addr} (hne : g ≠ a.block) (h : w.cell? a = some x) : (w.setCell ⟨g, j, none⟩ u).cell? a = some x := by
  rw [World.cell?_of_block (w := w) (a := a) (Below.heap_setCell w ⟨g, j, none⟩ u a.block (Ne.symm hne))]; exact h

/-- The world behind a move of thread t, which stands at the instruction d. -/
def moveW (W : Wd) (t n : Nat) (l : List ByteArray) (d hs : ByteArray) : Wd :=
  if 97 ≤ byteI d 0 ∧ byteI d 0 ≤ 102 then { stepped W t n d hs with has := W.has.set (byteI d 0 - 97).toNat (some t) }
  else if 65 ≤ byteI d 0 ∧ byteI d 0 ≤ 70 then { stepped W t n d hs with has := W.has.set (byteI d 0 - 65).toNat none }
  else if byteI d 0 = 62 then { stepped W t n d hs with born := W.born.set (byteI d 1 - 48).toNat true }
  else if byteI d 0 = 33 then { stepped W t n d hs with set := W.set.set (byteI d 1 - 117).toNat true }
  else if byteI d 0 = 126 then { stepped W t n d hs with set := W.set.set (byteI d 1 - 117).toNat false }
  else if byteI d 0 = 63 ∧ W.set[(byteI d 1 - 117).toNat]?.getD false = true then { stepped W t n d hs with place := W.place.set t (min (n + 1 + (byteI d 2 - 48).toNat) l.length) }
  else stepped W t n d hs

end Go.Proofs.YtdfndcbakcmgiabDoor
namespace Go.Proofs.YtdfndcbakcmgiabDoor
open Go.RowKit
attribute [local go_sem ↓] Go.wp_at_zero Go.wp_at_succ

def Six.cells (v : Six) : List Value := [v.P, v.B, v.L, v.H, v.S, v.G]

theorem rowsS_snoc : ∀ (ls : List (List ByteArray)) (vs : List Value) (l : List ByteArray) (v : Value), ls.length = vs.length → rowsS (ls ++ [l]) (vs ++ [v]) = rowsS ls vs ++ [⟨9, 1, v, l.length, l.map Value.string⟩]
  | [], [], _, _, _ => rfl
  | a :: ls, b :: vs, l, v, h => by
    simp only [List.cons_append, rowsS]
    rw [rowsS_snoc ls vs l v (by simpa using h)]
  | [], _ :: _, _, _, h => by simp at h
  | _ :: _, [], _, _, h => by simp at h
theorem infoBool : (Tryd.prog.info? 4).map (fun i => (i.zero, i.size, i.bytes)) = some (some (.bool false), 1, 1) := by kernel_rfl
theorem infoInt : (Tryd.prog.info? 3).map (fun i => (i.zero, i.size, i.bytes)) = some (some (.int .i64 0), 1, 8) := by kernel_rfl
theorem below_of_drew {w w1 : World} (hb : Below w.drew.heap.size w.drew w1) : Below w.heap.size w w1 := ⟨hb.os, hb.tape, hb.output, hb.size, hb.block⟩
/-- A call of a Go function, as one step of a region that draws. -/
theorem step_call {P : Program} {ops : Array Oper} {o : Oper} {a : Act} {w : World} {K : Act → World → Prop} {Q : Exit → Act → World → Prop} {E : Prop} (hgd : o.guard = none) (f : FuncId) (args : Array Value)
    (ho : (execOp a.eval o).run P w = .ok (.enter f args) w) {R : Ending → World → Prop} (hc : Calls P f args w R) (h : ∀ e w', R e w' → ∃ v, e = .returned v ∧ K (a.put o.dst v) w') :
    if Region.wanted o (yielded ops a.tmps) = true then Oper.wp P o a w K Q else E := by
  have hw : Region.wanted o (yielded ops a.tmps) = true := by simp [Region.wanted, hgd]
  rw [if_pos hw]
  unfold Oper.wp
  rw [ho, Oper.upon_enter]
  refine hc.mono fun e w' hr => ?_
  obtain ⟨v, rfl, hk⟩ := h e w' hr
  exact hk
theorem cell_append1 {w w2 : World} {o : Obj} {row : Option Nat} {a : Addr} {u : Value} (hg : (w.alloc o).grownBy w2 row) (hc : w.cell? a = some u) (hne : some a.block ≠ row) : w2.cell? a = some u := by
  have hlt := World.block_lt_of_cell? w _ hc
  rw [hg.cell_far a (by show a.block < (w.heap.push o).size; simp; omega) hne]
  exact cell_later ((Below.refl _ _).alloc (Nat.le_refl _) _) hc
theorem frozen_append1 {w w2 : World} {o : Obj} {row : Option Nat} {a : Addr} {u : Value} (hg : (w.alloc o).grownBy w2 row) (hc : w.cell? a = some u) (hz : w.frozen? a = false) (hne : some a.block ≠ row) : w2.frozen? a = false := by
  have hlt := World.block_lt_of_cell? w _ hc
  rw [hg.frozen_far a (by show a.block < (w.heap.push o).size; simp; omega) hne]
  rw [(((Below.refl w.heap.size w).alloc (Nat.le_refl _) o)).frozen hlt]
  exact hz
end Go.Proofs.YtdfndcbakcmgiabDoor
namespace Go.Proofs.YtdfndcbakcmgiabDoor
open Go.RowKit
attribute [local go_sem ↓] Go.wp_at_zero Go.wp_at_succ

/-- The world as far as it is made behind t threads. -/
def madeW (ths : List ByteArray) (t : Nat) : Wd := ⟨(ths.take t).map fun th => stLoop th 0 [], (List.range t).map fun i => decide (i = 0), List.replicate t 0, [], [], []⟩
def beginW (ths : List ByteArray) : Wd := { madeW ths ths.length with has := List.replicate 6 none, set := List.replicate 6 false }

theorem madeW_succ (ths : List ByteArray) (t : Nat) (h : t < ths.length) : madeW ths (t + 1) = ⟨(madeW ths t).prog ++ [stLoop ths[t] 0 []], (madeW ths t).born ++ [decide (t = 0)], (madeW ths t).place ++ [0], [], [], []⟩ := by
  unfold madeW
  simp only [Wd.mk.injEq, and_true]
  refine ⟨?_, ?_, ?_⟩
  · rw [List.take_succ_eq_append_getElem h, List.map_append]; rfl
  · rw [List.range_succ]; simp
  · rw [List.replicate_succ']

/-- All that the world's slices lie in is younger than N. -/
structure Young (N : Nat) (v : Six) : Prop where
  P : ∀ k, v.P.ownBlock = some k → N ≤ k
  B : ∀ k, v.B.ownBlock = some k → N ≤ k
  L : ∀ k, v.L.ownBlock = some k → N ≤ k
  H : ∀ k, v.H.ownBlock = some k → N ≤ k
  S : ∀ k, v.S.ownBlock = some k → N ≤ k
theorem fresh_young {w : World} {N : Nat} {v v' : Value} (h : ∀ k, v.ownBlock = some k → N ≤ k) (hf : Fresh w v v') (hN : N ≤ w.heap.size) : ∀ k, v'.ownBlock = some k → N ≤ k := by
  intro k hk
  rcases hf with e | ⟨g, e, hg⟩
  · exact h k (by rw [← e]; exact hk)
  · rw [e] at hk
    simp only [Option.some.injEq] at hk
    omega
theorem StrsIn.block {w w' : World} {B g : Nat} {l : List ByteArray} (h : StrsIn w B g l) (hs : w.heap.size ≤ w'.heap.size) (hb : w'.heap[g]? = w.heap[g]?) : StrsIn w' B g l :=
  ⟨h.1, Nat.lt_of_lt_of_le h.2.1 hs, fun j x hx => by rw [World.cell?_of_block (w := w) (a := ⟨g, j, none⟩) hb]; exact h.2.2 j x hx⟩

/-- A row is appended to and the struct's cell j written: what is old stands. -/
theorem making_step {w w1 wr wx w2 : World} {p g : Nat} {row : Option Nat} {y : Value} {j : Nat} (hB : Below p w wr) (hs : w1.heap.size ≤ wr.heap.size) (hb : wr.heap[g]? = w1.heap[g]?) (hg1 : g < w1.heap.size) (hgp : g ≠ p) (hp : p ≤ w1.heap.size)
    (hx : Below wr.heap.size wr wx) (hg : wx.grownBy w2 row) (hr : ∀ k, row = some k → w1.heap.size ≤ k) :
    Below p w (w2.setCell ⟨p, j, none⟩ y) ∧ w1.heap.size ≤ (w2.setCell ⟨p, j, none⟩ y).heap.size ∧ (w2.setCell ⟨p, j, none⟩ y).heap[g]? = w1.heap[g]? := by
  have hsx := hx.size
  have hsg := hg.size
  refine ⟨?_, ?_, ?_⟩
  · exact ((hB.trans (hx.mono (Nat.le_trans hp hs))).grown hg (by omega) (fun k hk => by have := hr k hk; omega)).setCell (Nat.le_refl _) _
  · show _ ≤ (w2.heap.modify _ _).size
    simp; omega
  · rw [Below.heap_setCell _ _ _ _ hgp, hg.block g (by omega) (fun e => by have := hr g e.symm; omega), hx.block g (by omega), hb]

end Go.Proofs.YtdfndcbakcmgiabDoor
namespace Go.Proofs.YtdfndcbakcmgiabDoor
open Go.RowKit
attribute [local go_sem ↓] Go.wp_at_zero Go.wp_at_succ

/-- A move of thread t. -/
def moveT (W : Wd) (t : Nat) : Wd :=
  moveW W t (W.place[t]?.getD 0) (W.prog[t]?.getD []) ((W.prog[t]?.getD [])[W.place[t]?.getD 0]?.getD ⟨#[]⟩) (holdsOf W t)

structure Wd.Inv (W : Wd) : Prop where
  good : W.Good
  log : W.log.length ≤ W.place.sum

theorem sum_le : ∀ (l : List Nat) (m : Nat), (∀ x ∈ l, x ≤ m) → l.sum ≤ l.length * m
  | [], _, _ => by simp
  | a :: l, m, h => by
    have h1 := h a (List.mem_cons_self ..)
    have h2 := sum_le l m (fun x hx => h x (List.mem_cons_of_mem _ hx))
    simp only [List.sum_cons, List.length_cons, Nat.add_mul]
    omega
theorem Wd.Inv.small {W : Wd} (h : W.Inv) : W.log.length ≤ 60 := by
  have h1 : W.place.sum ≤ W.place.length * 12 := by
    refine sum_le _ _ ?_
    intro x hx
    obtain ⟨t, ht, hxt⟩ := List.getElem_of_mem hx
    obtain ⟨l, hl⟩ := get_some W.prog t (by rw [← h.good.ok.nl]; exact ht)
    have := h.good.pl t l x hl (by simp [ht, hxt])
    have := h.good.len t l hl
    omega
  have h2 := h.good.ok.nl
  have h3 := h.good.n5
  have h4 := h.log
  have : W.place.length * 12 ≤ 5 * 12 := Nat.mul_le_mul_right _ (by omega)
  omega
theorem sum_set : ∀ (l : List Nat) (t a : Nat) (n : Nat), l[t]? = some n → n < a → l.sum + 1 ≤ (l.set t a).sum
  | [], _, _, _, h, _ => by simp at h
  | x :: l, 0, a, n, h, ha => by
    simp at h
    simp only [List.set_cons_zero, List.sum_cons]
    omega
  | x :: l, t + 1, a, n, h, ha => by
    have := sum_set l t a n (by simpa using h) ha
    simp only [List.set_cons_succ, List.sum_cons]
    omega

theorem stepped_good {W : Wd} (G : W.Good) {t n : Nat} {l : List ByteArray} {d : ByteArray} (A : At W t n l d) (m : Nat) (hm : m ≤ l.length) (hs : ByteArray) : Wd.Good { stepped W t n d hs with place := W.place.set t m } where
  ok := ⟨G.ok.np, G.ok.nb, by simp [G.ok.nl, stepped], G.ok.nh, G.ok.ns⟩
  n5 := G.n5
  dok := G.dok
  pl := fun t' l' n' hl' hn' => by
    simp only [stepped] at hl' hn'
    rw [List.getElem?_set] at hn'
    split at hn'
    · rename_i e
      subst e
      split at hn'
      · simp only [Option.some.injEq] at hn'
        rw [A.prog] at hl'
        simp only [Option.some.injEq] at hl'
        rw [← hn', ← hl']; exact hm
      · simp at hn'
    · exact G.pl t' l' n' hl' hn'
  len := G.len
  has := G.has

theorem moveW_inv {W : Wd} (I : W.Inv) {t n : Nat} {l : List ByteArray} {d : ByteArray} (A : At W t n l d) (ht : t < W.prog.length) (hs : ByteArray) : (moveW W t n l d hs).Inv := by
  have G := I.good
  have hln : n < l.length := (List.getElem?_eq_some_iff.1 A.txt).1
  have G1 : Wd.Good (stepped W t n d hs) := stepped_good G A (n + 1) hln hs
  have hlog : (W.log ++ [(⟨t, n, d, hs⟩ : Ev)]).length ≤ (W.place.set t (n + 1)).sum := by
    have := sum_set W.place t (n + 1) n A.place (by omega)
    have := I.log
    simp; omega
  unfold moveW
  split
  · refine ⟨⟨⟨G1.ok.np, G1.ok.nb, G1.ok.nl, by simp [G.ok.nh], G1.ok.ns⟩, G1.n5, G1.dok, G1.pl, G1.len, ?_⟩, hlog⟩
    intro k u hu
    simp only [stepped] at hu ⊢
    rw [List.getElem?_set] at hu
    split at hu
    · split at hu
      · simp only [Option.some.injEq] at hu; omega
      · simp at hu
    · exact G.has k u hu
  split
  · refine ⟨⟨⟨G1.ok.np, G1.ok.nb, G1.ok.nl, by simp [G.ok.nh], G1.ok.ns⟩, G1.n5, G1.dok, G1.pl, G1.len, ?_⟩, hlog⟩
    intro k u hu
    simp only [stepped] at hu ⊢
    rw [List.getElem?_set] at hu
    split at hu
    · split at hu
      · simp at hu
      · simp at hu
    · exact G.has k u hu
  split
  · exact ⟨⟨⟨G1.ok.np, by simp [G.ok.nb, stepped], G1.ok.nl, G1.ok.nh, G1.ok.ns⟩, G1.n5, G1.dok, G1.pl, G1.len, G1.has⟩, hlog⟩
  split
  · exact ⟨⟨⟨G1.ok.np, G1.ok.nb, G1.ok.nl, G1.ok.nh, by simp [G.ok.ns]⟩, G1.n5, G1.dok, G1.pl, G1.len, G1.has⟩, hlog⟩
  split
  · exact ⟨⟨⟨G1.ok.np, G1.ok.nb, G1.ok.nl, G1.ok.nh, by simp [G.ok.ns]⟩, G1.n5, G1.dok, G1.pl, G1.len, G1.has⟩, hlog⟩
  split
  · refine ⟨stepped_good G A _ (Nat.min_le_right _ _) hs, ?_⟩
    have h1 := sum_set W.place t (min (n + 1 + (byteI d 2 - 48).toNat) l.length) n A.place (by omega)
    have h2 := I.log
    show (W.log ++ [(⟨t, n, d, hs⟩ : Ev)]).length ≤ _
    simp; omega
  · exact ⟨G1, hlog⟩

theorem moveT_at {W : Wd} {t n : Nat} {l : List ByteArray} {d : ByteArray} (A : At W t n l d) : moveT W t = moveW W t n l d (holdsOf W t) := by
  unfold moveT
  rw [A.place, A.prog]
  simp only [Option.getD_some]
  rw [A.txt]
  rfl

theorem moveT_inv {W : Wd} (I : W.Inv) {t : Nat} (ht : t < W.prog.length) (hst : stateOf W t = 1) : (moveT W t).Inv := by
  obtain ⟨n, l, d, A, _⟩ := stateOf_at W t (by omega) (by omega) I.good ht
  rw [moveT_at A]
  exact moveW_inv I A ht _
theorem moveT_prog (W : Wd) (t : Nat) : (moveT W t).prog = W.prog := by
  unfold moveT moveW
  repeat' split
  all_goals rfl

/-- Where a schedule leads, from place k on. -/
def toLoop (s : ByteArray) (W : Wd) (k : Nat) : Option Wd :=
  if k < s.size then
    if 48 ≤ byteI s k ∧ byteI s k < 58 ∧ byteI s k < 48 + W.prog.length ∧ stateOf W (byteI s k - 48).toNat = 1 then toLoop s (moveT W (byteI s k - 48).toNat) (k + 1) else none
  else some W
termination_by s.size - k

end Go.Proofs.YtdfndcbakcmgiabDoor
namespace Go.Proofs.YtdfndcbakcmgiabDoor
open Go.RowKit
attribute [local go_sem ↓] Go.wp_at_zero Go.wp_at_succ

/-! Digits as texts. -/
def digS (l : List Nat) : ByteArray := ⟨(l.map fun t => UInt8.ofNat (48 + t)).toArray⟩
theorem digS_size (l : List Nat) : (digS l).size = l.length := by simp [digS, ByteArray.size]
theorem digS_nil : digS [] = ⟨#[]⟩ := rfl
theorem digS_snoc (l : List Nat) (t : Nat) : digS l ++ nameS t = digS (l ++ [t]) := by
  apply ByteArray.ext
  simp [digS, nameS]
theorem digS_empty (l : List Nat) : (digS l).toList.isEmpty = l.isEmpty := by
  rw [ByteArray.toList_eq]
  cases l <;> simp [digS]
theorem digS_get (l : List Nat) (j : Nat) (h : j < (digS l).size) (hl : ∀ t ∈ l, t ≤ 100) : ((digS l)[j].toNat : Int) = 48 + (l[j]'(by rw [← digS_size]; exact h) : Nat) := by
  have hj : j < l.length := by rw [← digS_size]; exact h
  have e : (digS l)[j] = UInt8.ofNat (48 + l[j]) := by
    show (l.map fun t => UInt8.ofNat (48 + t)).toArray[j]'(by simpa using hj) = _
    simp
  rw [e, UInt8.toNat_ofNat']
  have := hl l[j] (by simp)
  omega

/-- The threads that may move, and whether some other waits, from thread t on. -/
def mayLoop (W : Wd) (t : Nat) (l : List Nat) (alive : Bool) : List Nat × Bool :=
  if t < W.prog.length then mayLoop W (t + 1) (if stateOf W t = 1 ∨ stateOf W t = 5 then l ++ [t] else l) (alive || decide (stateOf W t = 2) || decide (stateOf W t = 3)) else (l, alive)
termination_by W.prog.length - t

def resumeL (picks : ByteArray) : Nat → Wd → List Nat → List Nat × Int
  | 0, _, out => (out, 0)
  | fuel + 1, W, out =>
    if (mayLoop W 0 [] false).1 = [] then (out, if (mayLoop W 0 [] false).2 = true then 2 else 1)
    else if stateOf W ((mayLoop W 0 [] false).1.getD ((byteI picks out.length).toNat % (mayLoop W 0 [] false).1.length) 0) = 5 then (out, 3)
    else resumeL picks fuel (moveT W ((mayLoop W 0 [] false).1.getD ((byteI picks out.length).toNat % (mayLoop W 0 [] false).1.length) 0)) (out ++ [(mayLoop W 0 [] false).1.getD ((byteI picks out.length).toNat % (mayLoop W 0 [] false).1.length) 0])

theorem mayLoop_mem (W : Wd) : ∀ (n t : Nat) (l : List Nat) (a : Bool), W.prog.length - t = n → (∀ x ∈ l, x < W.prog.length ∧ (stateOf W x = 1 ∨ stateOf W x = 5)) → ∀ x ∈ (mayLoop W t l a).1, x < W.prog.length ∧ (stateOf W x = 1 ∨ stateOf W x = 5) := by
  intro n
  induction n with
  | zero => intro t l a hn hl; rw [mayLoop, if_neg (by omega)]; exact hl
  | succ n ih =>
    intro t l a hn hl
    rw [mayLoop, if_pos (by omega)]
    refine ih (t + 1) _ _ (by omega) ?_
    split
    · rename_i hc
      intro x hx
      rcases List.mem_append.1 hx with hx | hx
      · exact hl x hx
      · simp at hx; subst hx; exact ⟨by omega, hc⟩
    · exact hl

def strLen : Value → Nat | .string s => s.size | _ => 0
theorem moveT_log {W : Wd} (t : Nat) : (moveT W t).log.length = W.log.length + 1 := by
  unfold moveT moveW stepped
  repeat' split
  all_goals simp
end Go.Proofs.YtdfndcbakcmgiabDoor
namespace Go.Proofs.YtdfndcbakcmgiabDoor
open Go.RowKit
attribute [local go_sem ↓] Go.wp_at_zero Go.wp_at_succ

theorem digS_one (t : Nat) : (⟨#[UInt8.ofNat (48 + t)]⟩ : ByteArray) = nameS t := rfl

end Go.Proofs.YtdfndcbakcmgiabDoor
namespace Go.Proofs.YtdfndcbakcmgiabDoor
open Go.RowKit

theorem ckExtra_neg (l : List ByteArray) : ∀ (n t : Nat), l.length - t = n → ckExtra l t = -1 → ∀ j (h : j < l.length), t ≤ j → j < 5 ∧ (stLoop l[j] 0 []).length ≤ 12 := by
  intro n
  induction n with
  | zero => intro t hn _ j h hj; omega
  | succ n ih =>
    intro t hn hk j h hj
    rw [ckExtra, dif_pos (by omega)] at hk
    split at hk
    · omega
    · rename_i hc
      by_cases e : j = t
      · subst e; omega
      · exact ih (t + 1) (by omega) hk j h (by omega)

theorem ckStray_neg (s : ByteArray) (m : Nat) : ∀ (n i : Nat), s.size - i = n → ckStray s m i = -1 → ∀ j, i ≤ j → j < s.size → (byteI s (j - 1) = 60 ∨ byteI s (j - 1) = 62) → (byteI s j - 48) % 256 < m := by
  intro n
  induction n with
  | zero => intro i hn _ j h1 h2; omega
  | succ n ih =>
    intro i hn hk j h1 h2 hc
    rw [ckStray, if_pos (by omega)] at hk
    split at hk
    · omega
    · rename_i hc'
      by_cases e : j = i
      · subst e
        have := fun h => hc' ⟨hc, h⟩
        omega
      · exact ih (i + 1) (by omega) hk j (by omega) h2 hc

/-- An instruction of the text. -/
def DP (s d : ByteArray) : Prop := ∃ k, k < s.size ∧ byteI s k ≠ 59 ∧ (readStep s k).2.2 = true ∧ d = s.extract k (readStep s k).2.1

theorem dp_main (s : ByteArray) : ∀ (n k frm : Nat) (dn : List ByteArray) (pre : List ByteArray) (L : List (List Stp)), s.size - k = n → frm ≤ k → k ≤ s.size →
    (∀ e, k ≤ e → e ≤ s.size → stLoop (s.extract frm e) 0 [] = stLoop (s.extract frm e) (k - frm) pre) →
    rtLoop s k (parse dn) (pre.map stpOf) = .inl L → (∀ th ∈ dn, ∀ d ∈ stLoop th 0 [], DP s d) → (∀ d ∈ pre, DP s d) → ∀ th ∈ thLoop s frm k dn, ∀ d ∈ stLoop th 0 [], DP s d := by
  intro n
  induction n using Nat.strongRecOn with
  | ind n ih =>
    intro k frm dn pre L hn hf hk hpre hL hdn hpr
    by_cases hlt : k < s.size
    · by_cases h59 : byteI s k = 59
      · have hsp := hpre k (Nat.le_refl _) hk
        rw [stLoop_end _ (k - frm) pre (by rw [ByteArray.size_extract]; omega)] at hsp
        have hr : rtLoop s k (parse dn) (pre.map stpOf) = rtLoop s (k + 1) (parse (dn ++ [s.extract frm k])) (([] : List ByteArray).map stpOf) := by
          rw [rtLoop, if_pos hlt, if_pos h59]
          simp [parse, hsp]
        rw [hr] at hL
        rw [thLoop, if_pos hlt, if_pos h59]
        refine ih (s.size - (k + 1)) (by omega) (k + 1) (k + 1) _ [] L rfl (by omega) (by omega) (fun e _ _ => by simp) hL ?_ (by simp)
        intro th hth
        rcases List.mem_append.1 hth with hth | hth
        · exact hdn th hth
        · simp at hth; subst hth; rw [hsp]; exact hpr
      · cases hok : (readStep s k).2.2 with
        | false =>
          rw [rtLoop, if_pos hlt, if_neg h59, dif_neg (by simp [hok])] at hL
          cases hL
        | true =>
          have G := readStep_good s k hlt h59 hok
          have hr : rtLoop s k (parse dn) (pre.map stpOf) = rtLoop s (readStep s k).2.1 (parse dn) ((pre ++ [s.extract k (readStep s k).2.1]).map stpOf) := by
            rw [rtLoop, if_pos hlt, if_neg h59, dif_pos hok]
            simp [← G.stp]
          rw [hr] at hL
          have hd : DP s (s.extract k (readStep s k).2.1) := ⟨k, hlt, h59, hok, rfl⟩
          generalize (readStep s k).2.1 = nx at G hL hd
          have hw := wid_range (byteI s k)
          have hnx := G.nxt
          have hle := G.le
          rw [thLoop_skip s frm dn (nx - k) k nx (by omega) hle G.nosemi]
          refine ih (s.size - nx) (by omega) nx frm dn _ L rfl (by omega) hle ?_ hL hdn ?_
          · intro e he1 he2
            rw [hpre e (by omega) he2, stLoop, dif_pos (by rw [ByteArray.size_extract]; omega)]
            have hend : stEnd (s.extract frm e) (k - frm) = nx - frm := by
              have hby : byteI (s.extract frm e) (k - frm) = byteI s k := by
                have e0 : frm + (k - frm) = k := by omega
                rw [byteI_extract s frm e _ he2, if_pos (by omega), e0]
              rw [stEnd, hby, ByteArray.size_extract, if_neg (by omega)]
              omega
            rw [hend, extract_extract s frm e _ _ (by omega)]
            have e1 : frm + (k - frm) = k := by omega
            have e2 : frm + (nx - frm) = nx := by omega
            rw [e1, e2]
          · intro d hdd
            rcases List.mem_append.1 hdd with h | h
            · exact hpr d h
            · simp at h; subst h; exact hd
    · have hsp := hpre s.size (by omega) (Nat.le_refl _)
      rw [stLoop_end _ (k - frm) pre (by rw [ByteArray.size_extract]; omega)] at hsp
      rw [thLoop, if_neg hlt]
      intro th hth
      rcases List.mem_append.1 hth with hth | hth
      · exact hdn th hth
      · simp at hth; subst hth; rw [hsp]; exact hpr

/-- What the bytes of a step that could be read are. -/
theorem readStep_bytes (s : ByteArray) (k : Nat) (h : (readStep s k).2.2 = true) :
    byteI s k = 46 ∨ (97 ≤ byteI s k ∧ byteI s k ≤ 102) ∨ (65 ≤ byteI s k ∧ byteI s k ≤ 70) ∨ ((byteI s k = 33 ∨ byteI s k = 126) ∧ 117 ≤ byteI s (k + 1) ∧ byteI s (k + 1) ≤ 122) ∨
    (byteI s k = 63 ∧ 117 ≤ byteI s (k + 1) ∧ byteI s (k + 1) ≤ 122 ∧ 49 ≤ byteI s (k + 2) ∧ byteI s (k + 2) ≤ 57) ∨ ((byteI s k = 60 ∨ byteI s k = 62) ∧ 48 ≤ byteI s (k + 1) ∧ byteI s (k + 1) ≤ 57) := by
  unfold readStep at h
  split at h
  · exact .inl (by assumption)
  split at h
  · exact .inr (.inl (by assumption))
  split at h
  · exact .inr (.inr (.inl (by assumption)))
  split at h
  · rename_i c; have := readNamed_good h; exact .inr (.inr (.inr (.inl ⟨.inl c, this.2⟩)))
  split at h
  · rename_i c; have := readNamed_good h; exact .inr (.inr (.inr (.inl ⟨.inr c, this.2⟩)))
  split at h
  · rename_i c
    unfold readSkip at h
    split at h
    · simp at h
    split at h
    · simp at h
    · have e : k + 1 + 1 = k + 2 := by omega
      rename_i d1 d2
      rw [e] at d2
      exact .inr (.inr (.inr (.inr (.inl ⟨c, by omega, by omega, by omega, by omega⟩))))
  split at h
  · rename_i c; have := readNamed_good h; exact .inr (.inr (.inr (.inr (.inr ⟨.inr c, this.2⟩))))
  split at h
  · rename_i c; have := readNamed_good h; exact .inr (.inr (.inr (.inr (.inr ⟨.inl c, this.2⟩))))
  · simp at h

theorem dp_ok (s d : ByteArray) (n : Nat) (h : DP s d) (hst : ∀ j, 1 ≤ j → j < s.size → (byteI s (j - 1) = 60 ∨ byteI s (j - 1) = 62) → (byteI s j - 48) % 256 < n) : DOk n d := by
  obtain ⟨k, hk, h59, hok, rfl⟩ := h
  have G := readStep_good s k hk h59 hok
  have hb := readStep_bytes s k hok
  have hnx := G.nxt
  have hle := G.le
  generalize (readStep s k).2.1 = nx at *
  have hw := wid_range (byteI s k)
  have e0 : byteI (s.extract k nx) 0 = byteI s k := stpOf_extract0 s k nx hle (by omega)
  have e1 : 2 ≤ wid (byteI s k) → byteI (s.extract k nx) 1 = byteI s (k + 1) := fun h => stpOf_extract s k nx hle 1 (by omega)
  have e2 : 3 ≤ wid (byteI s k) → byteI (s.extract k nx) 2 = byteI s (k + 2) := fun h => stpOf_extract s k nx hle 2 (by omega)
  refine ⟨?_, ?_⟩
  · rw [e0, ByteArray.size_extract]; omega
  · rw [e0]
    rcases hb with h | h | h | ⟨h, h1, h2⟩ | ⟨h, h1, h2, h3, h4⟩ | ⟨h, h1, h2⟩
    · exact .inl h
    · exact .inr (.inl h)
    · exact .inr (.inr (.inl h))
    · have hw2 : wid (byteI s k) = 2 := wid_two (by omega)
      rw [e1 (by omega)]
      exact .inr (.inr (.inr (.inl ⟨h, h1, h2⟩)))
    · have hw3 : wid (byteI s k) = 3 := by rw [h]; rfl
      rw [e1 (by omega), e2 (by omega)]
      exact .inr (.inr (.inr (.inr (.inl ⟨h, h1, h2, h3, h4⟩))))
    · have hw2 : wid (byteI s k) = 2 := wid_two (by omega)
      rw [e1 (by omega)]
      have hs1 : k + 1 < s.size := by omega
      have := hst (k + 1) (by omega) hs1 (by rw [Nat.add_sub_cancel]; exact h)
      exact .inr (.inr (.inr (.inr (.inr ⟨h, h1, by omega⟩))))

theorem ckP_zero (s : ByteArray) (h : (ckP s).1 = 0) : s.size ≤ 160 ∧ badLoop s 0 0 = -1 ∧ ckExtra (thLoop s 0 0 []) 0 = -1 ∧ ckStray s (thLoop s 0 0 []).length 1 = -1 := by
  unfold ckP at h
  split at h
  · simp at h
  rename_i h1
  split at h
  · simp at h
  rename_i h2
  unfold ckEnd at h
  split at h
  · simp at h
  rename_i h3
  split at h
  · simp at h
  rename_i h4
  refine ⟨by omega, ?_, by omega, by omega⟩
  have hm := rt_main s _ 0 0 [] [] rfl (Nat.le_refl _) (Nat.zero_le _) (fun e _ _ => by simp)
  simp only [parse, List.map_nil] at hm
  cases hr : rtLoop s 0 [] [] with
  | inr p => rw [hr] at hm; simp only at hm; omega
  | inl L => rw [hr] at hm; exact hm.1

theorem thLoop_pos (s : ByteArray) : ∀ (n frm k : Nat) (dn : List ByteArray), s.size - k = n → 0 < (thLoop s frm k dn).length := by
  intro n
  induction n with
  | zero => intro frm k dn h; rw [thLoop, if_neg (by omega)]; simp
  | succ n ih =>
    intro frm k dn h
    rw [thLoop, if_pos (by omega)]
    split
    · exact ih _ _ _ (by omega)
    · exact ih _ _ _ (by omega)

/-- A text that Check lets by begins well. -/
theorem begin_inv (s : ByteArray) (h : (ckP s).1 = 0) : (beginW (thLoop s 0 0 [])).Inv := by
  obtain ⟨h160, hbad, hex, hst⟩ := ckP_zero s h
  have hext := ckExtra_neg (thLoop s 0 0 []) _ 0 rfl hex
  have hstr := ckStray_neg s _ _ 1 rfl hst
  have hpos := thLoop_pos s _ 0 0 [] rfl
  have hm := rt_main s _ 0 0 [] [] rfl (Nat.le_refl _) (Nat.zero_le _) (fun e _ _ => by simp)
  have hdp : ∀ th ∈ thLoop s 0 0 [], ∀ d ∈ stLoop th 0 [], DP s d := by
    simp only [parse, List.map_nil] at hm
    cases hr : rtLoop s 0 [] [] with
    | inr p => rw [hr] at hm; simp only at hm; omega
    | inl L => exact dp_main s _ 0 0 [] [] L rfl (Nat.le_refl _) (Nat.zero_le _) (fun e _ _ => by simp) (by simpa [parse] using hr) (by simp) (by simp)
  clear hm
  generalize thLoop s 0 0 [] = ths at *
  have hprog : (beginW ths).prog = ths.map fun th => stLoop th 0 [] := by simp [beginW, madeW]
  have hlen : (beginW ths).prog.length = ths.length := by rw [hprog]; simp
  refine ⟨⟨⟨by omega, ?_, ?_, by simp [beginW], by simp [beginW]⟩, ?_, ?_, ?_, ?_, ?_⟩, by simp [beginW, madeW]⟩
  · rw [hlen]; simp [beginW, madeW]
  · rw [hlen]; simp [beginW, madeW]
  · rw [hlen]
    have := hext (ths.length - 1) (by omega) (Nat.zero_le _)
    omega
  · intro t l j d hl hd
    rw [hlen]
    rw [hprog, List.getElem?_map] at hl
    cases hth : ths[t]? with
    | none => rw [hth] at hl; simp at hl
    | some th =>
      rw [hth] at hl
      simp at hl
      subst hl
      exact dp_ok s d _ (hdp th (List.mem_of_getElem? hth) d (List.mem_of_getElem? hd)) hstr
  · intro t l n _ hn
    have : (beginW ths).place = List.replicate ths.length 0 := by simp [beginW, madeW]
    rw [this, List.getElem?_replicate] at hn
    split at hn
    · simp at hn; omega
    · simp at hn
  · intro t l hl
    rw [hprog, List.getElem?_map] at hl
    cases hth : ths[t]? with
    | none => rw [hth] at hl; simp at hl
    | some th =>
      rw [hth] at hl
      simp at hl
      subst hl
      obtain ⟨ht, e⟩ := List.getElem?_eq_some_iff.1 hth
      have := (hext t ht (Nat.zero_le _)).2
      rw [e] at this
      exact this
  · intro k u hu
    have : (beginW ths).has = List.replicate 6 none := rfl
    rw [this, List.getElem?_replicate] at hu
    split at hu
    · simp at hu
    · simp at hu
end Go.Proofs.YtdfndcbakcmgiabDoor
namespace Go.Proofs.YtdfndcbakcmgiabDoor
open Go.RowKit
attribute [local go_sem ↓] Go.wp_at_zero Go.wp_at_succ

theorem cell_set4 {w : World} {q : Nat} {u0 u1 u2 u3 x : Value} {a : Addr} (hne : q ≠ a.block) (h : w.cell? a = some x) : ((((w.setCell ⟨q, 0, none⟩ u0).setCell ⟨q, 1, none⟩ u1).setCell ⟨q, 2, none⟩ u2).setCell ⟨q, 3, none⟩ u3).cell? a = some x :=
  cell_set_other hne (cell_set_other hne (cell_set_other hne (cell_set_other hne h)))
theorem set4_get {w : World} {q : Nat} {a0 a1 a2 a3 u0 u1 u2 u3 : Value} (c0 : w.cell? ⟨q, 0, none⟩ = some a0) (c1 : w.cell? ⟨q, 1, none⟩ = some a1) (c2 : w.cell? ⟨q, 2, none⟩ = some a2) (c3 : w.cell? ⟨q, 3, none⟩ = some a3) (z : w.frozen? ⟨q, 2, none⟩ = false) :
    ((((w.setCell ⟨q, 0, none⟩ u0).setCell ⟨q, 1, none⟩ u1).setCell ⟨q, 2, none⟩ u2).setCell ⟨q, 3, none⟩ u3).cell? ⟨q, 0, none⟩ = some u0 ∧
    ((((w.setCell ⟨q, 0, none⟩ u0).setCell ⟨q, 1, none⟩ u1).setCell ⟨q, 2, none⟩ u2).setCell ⟨q, 3, none⟩ u3).cell? ⟨q, 1, none⟩ = some u1 ∧
    ((((w.setCell ⟨q, 0, none⟩ u0).setCell ⟨q, 1, none⟩ u1).setCell ⟨q, 2, none⟩ u2).setCell ⟨q, 3, none⟩ u3).cell? ⟨q, 2, none⟩ = some u2 ∧
    ((((w.setCell ⟨q, 0, none⟩ u0).setCell ⟨q, 1, none⟩ u1).setCell ⟨q, 2, none⟩ u2).setCell ⟨q, 3, none⟩ u3).cell? ⟨q, 3, none⟩ = some u3 ∧
    ((((w.setCell ⟨q, 0, none⟩ u0).setCell ⟨q, 1, none⟩ u1).setCell ⟨q, 2, none⟩ u2).setCell ⟨q, 3, none⟩ u3).frozen? ⟨q, 2, none⟩ = false := by
  refine ⟨?_, ?_, ?_, ?_, ?_⟩ <;> simp [go_sem, c0, c1, c2, c3, z]
theorem new4_get (w : World) (u0 u1 u2 u3 : Value) (T : TypeId) :
    (w.alloc (.cells #[u0, u1, u2, u3] T)).cell? ⟨w.heap.size, 0, none⟩ = some u0 ∧ (w.alloc (.cells #[u0, u1, u2, u3] T)).cell? ⟨w.heap.size, 1, none⟩ = some u1 ∧ (w.alloc (.cells #[u0, u1, u2, u3] T)).cell? ⟨w.heap.size, 2, none⟩ = some u2 ∧
    (w.alloc (.cells #[u0, u1, u2, u3] T)).cell? ⟨w.heap.size, 3, none⟩ = some u3 ∧ (w.alloc (.cells #[u0, u1, u2, u3] T)).frozen? ⟨w.heap.size, 2, none⟩ = false := by
  have hn := heap_alloc_new w (.cells #[u0, u1, u2, u3] T)
  refine ⟨?_, ?_, ?_, ?_, ?_⟩
  · rw [cell_of_row _ _ _ _ _ _ hn]; rfl
  · rw [cell_of_row _ _ _ _ _ _ hn]; rfl
  · rw [cell_of_row _ _ _ _ _ _ hn]; rfl
  · rw [cell_of_row _ _ _ _ _ _ hn]; rfl
  · exact frozen_of_row _ _ _ _ _ hn
structure Th where
  state : Int
  place : Int
  holds : ByteArray
  waits : Int
def thCells (x : Th) : List Value := [.int .i64 x.state, .int .i64 x.place, .string x.holds, .int .i64 x.waits]
def thOf (W : Wd) (t : Nat) : Th := ⟨stateOf W t, W.place[t]?.getD 0, holdsOf W t, waitsOf W t⟩
def thsOf (W : Wd) (t : Nat) : List Th := (List.range t).map (thOf W)
def flagsLoop (set : List Bool) (k : Nat) (acc : ByteArray) : ByteArray :=
  if k < 6 then flagsLoop set (k + 1) (if set[k]?.getD false = true then acc ++ flagS.extract k (k + 1) else acc) else acc
termination_by 6 - k

theorem infoThread : (Tryd.prog.info? 70).map (fun i => (i.zero, i.size, i.bytes)) = some (some (.agg #[.int .i64 0, .int .i64 0, .string ⟨#[]⟩, .int .i64 0]), 4, 40) := by kernel_rfl

/-- The rows of a view that is being made: the variable, the threads, the result. -/
def famV (q r : Nat) (xs : List Value) (vT : Value) (l : List Th) : List RowD :=
  [⟨66, 1, .slice (some ⟨q, 0, none⟩) 2 2, 2, xs⟩, ⟨70, 4, vT, l.length, l.flatMap thCells⟩, ⟨66, 1, .slice (some ⟨r, 0, none⟩) 2 2, 2, [.slice none 0 0, .string ⟨#[]⟩]⟩]

theorem famV_start (w : World) : Fams ((w.alloc (.cells #[.slice none 0 0, .string ⟨#[]⟩] 66)).alloc (.cells #[.slice none 0 0, .string ⟨#[]⟩] 66)) w.heap.size
    (famV (w.heap.size + 1) w.heap.size [.slice none 0 0, .string ⟨#[]⟩] (.slice none 0 0) []) := by
  have h0 := (Fams.nil w w.heap.size).lit (Nat.le_refl _) 66 1 #[.slice none 0 0, .string ⟨#[]⟩] 2 (by unfold maxLen; omega) rfl
  have h1 := (h0.addNil 70 4).lit (by simp) 66 1 #[.slice none 0 0, .string ⟨#[]⟩] 2 (by unfold maxLen; omega) rfl
  simpa [famV] using h1

theorem famV_cell {w : World} {B q r : Nat} {x y vT : Value} {l : List Th} (hf : Fams w B (famV q r [x, y] vT l)) : w.cell? ⟨q, 0, none⟩ = some x ∧ w.cell? ⟨q, 1, none⟩ = some y ∧ (∀ j, w.frozen? ⟨q, j, none⟩ = false) ∧ q < w.heap.size ∧ B ≤ q := by
  have o := hf.own (r := ⟨66, 1, .slice (some ⟨q, 0, none⟩) 2 2, 2, [x, y]⟩) (by simp [famV])
  exact ⟨o.cellAt 0 (by show 0 < 2 * 1; omega), o.cellAt 1 (by show 1 < 2 * 1; omega), fun j => o.frozenAt j, (o.lt q rfl).2, (o.lt q rfl).1⟩
theorem Fams.setFar {w : World} {B : Nat} {f : List RowD} (hf : Fams w B f) {N q j : Nat} (hN : ∀ r ∈ f, ∀ k, r.v.ownBlock = some k → k < N) (hq : N ≤ q) (u : Value) : Fams (w.setCell ⟨q, j, none⟩ u) B f := by
  refine ⟨fun r hr => ?_, hf.2⟩
  refine World.ownsRow.kept (row := some q) (hf.1 r hr) ⟨rfl, rfl, rfl, by simp [World.setCell], fun k _ hk => Below.heap_setCell _ _ _ _ (fun e => hk (by rw [e]))⟩ ?_
  cases hk : r.v.ownBlock with
  | none => exact .inl rfl
  | some k => exact .inr (fun e => by simp only [Option.some.injEq] at e; have := hN r hr k hk; omega)
theorem Fams.below_all {w : World} {B : Nat} {f : List RowD} (hf : Fams w B f) : ∀ r ∈ f, ∀ k, r.v.ownBlock = some k → k < w.heap.size := fun r hr k hk => (World.ownsRow.lt (hf.1 r hr) k hk).2
theorem famV_res {w : World} {B q r : Nat} {xs : List Value} {vT : Value} {l : List Th} (hf : Fams w B (famV q r xs vT l)) : w.cell? ⟨r, 0, none⟩ = some (.slice none 0 0) ∧ w.cell? ⟨r, 1, none⟩ = some (.string ⟨#[]⟩) ∧ (∀ j, w.frozen? ⟨r, j, none⟩ = false) ∧ B ≤ r ∧ q ≠ r ∧
    ∀ u0 u1, ((w.setCell ⟨r, 0, none⟩ u0).setCell ⟨r, 1, none⟩ u1).ownsRow B 70 4 vT l.length (l.flatMap thCells) := by
  have o := hf.own (r := ⟨66, 1, .slice (some ⟨r, 0, none⟩) 2 2, 2, [.slice none 0 0, .string ⟨#[]⟩]⟩) (by simp [famV])
  have a02 := apart_of hf.2 0 2 _ _ (by omega) rfl rfl
  simp only [Apart, Value.ownBlock, ne_eq, Option.some.injEq, reduceCtorEq, or_false] at a02
  refine ⟨o.cellAt 0 (by show 0 < 2 * 1; omega), o.cellAt 1 (by show 1 < 2 * 1; omega), fun j => o.frozenAt j, (o.lt r rfl).1, a02, fun u0 u1 => ?_⟩
  have h1 := hf.perm (perm2 _ _ _ _)
  have h2 := Fams.store (Fams.store h1 0 u0) 1 u1
  exact h2.own (r := ⟨70, 4, vT, l.length, l.flatMap thCells⟩) (by simp)
theorem famV_far {w : World} {B q r : Nat} {xs : List Value} {vT : Value} {l : List Th} (hf : Fams w B (famV q r xs vT l)) : some q ≠ vT.ownBlock := by
  have := apart_of hf.2 0 1 _ _ (by omega) rfl rfl
  exact this.resolve_right (by simp [Value.ownBlock])
theorem famV_row {w : World} {B q r : Nat} {xs : List Value} {vT : Value} {l : List Th} (hf : Fams w B (famV q r xs vT l)) : w.ownsRow B 70 4 vT l.length (l.flatMap thCells) :=
  hf.own (r := ⟨70, 4, vT, l.length, l.flatMap thCells⟩) (by simp [famV])
theorem famV_app {w w2 : World} {B q r : Nat} {xs : List Value} {vT v' : Value} {l : List Th} {x : Th} {o : Obj} (hf : Fams w B (famV q r xs vT l)) (hown : w2.ownsRow B 70 4 v' (l.length + 1) (l.flatMap thCells ++ thCells x)) (hg : (w.alloc o).grownBy w2 vT.ownBlock) (hfr : Fresh (w.alloc o) vT v') :
    Fams w2 B (famV q r xs v' (l ++ [x])) := by
  have h2 := (Fams.head (r' := ⟨70, 4, v', l.length + 1, l.flatMap thCells ++ thCells x⟩) ((hf.alloc o).perm (perm1 _ _ _)) hg hfr hown).perm (perm1 _ _ _)
  simpa [famV] using h2
theorem famV_put {w : World} {B q r : Nat} {xs : List Value} {vT : Value} {l : List Th} (hf : Fams w B (famV q r xs vT l)) (j : Nat) (y : Value) : Fams (w.setCell ⟨q, j, none⟩ y) B (famV q r (xs.set j y) vT l) := Fams.store hf j y
theorem thsOf_succ (W : Wd) (t : Nat) : thsOf W (t + 1) = thsOf W t ++ [thOf W t] := by simp [thsOf, List.range_succ]
theorem thsOf_len (W : Wd) (t : Nat) : (thsOf W t).length = t := by simp [thsOf]

end Go.Proofs.YtdfndcbakcmgiabDoor
namespace Go.Proofs.YtdfndcbakcmgiabDoor
open Go.RowKit

end Go.Proofs.YtdfndcbakcmgiabDoor
