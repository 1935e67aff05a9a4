import Derived.Test.YtdfndcbakcmgiabDoorT22
import Derived.Deep.AppendLies
namespace Go.Proofs.YtdfndcbakcmgiabDoor
open Go.RowKit

theorem ownsRow_below {w w' : World} {B : Nat} {e : TypeId} {size n : Nat} {v : Value} {xs : List Value} (h : w.ownsRow B e size v n xs) (hb : Below w.heap.size w w') : w'.ownsRow B e size v n xs :=
  h.kept (grownBy_of_below hb) (by cases hv : v.ownBlock <;> simp)
abbrev rowAv (w : World) (B : Nat) (v : Value) (l : List Ak) : Prop := w.ownsRow B 37 5 v l.length (l.flatMap akCells)

end Go.Proofs.YtdfndcbakcmgiabDoor
namespace Go.Proofs.YtdfndcbakcmgiabDoor
open Go.RowKit

/-- Asks as they are read: row by row. -/
def AksAt (w : World) (a : Option Addr) (l : List Ak) : Prop := ∀ (k : Nat) (x : Ak), l[k]? = some x → ∃ g, a = some ⟨g, 0, none⟩ ∧ w.cell? ⟨g, k * 5, none⟩ = some (.int .i64 x.th) ∧ w.cell? ⟨g, k * 5 + 1, none⟩ = some (.int .i64 x.pl) ∧ w.cell? ⟨g, k * 5 + 2, none⟩ = some (.string x.lock) ∧ w.cell? ⟨g, k * 5 + 3, none⟩ = some (.string x.holds) ∧ w.cell? ⟨g, k * 5 + 4, none⟩ = some (.int .i64 x.at')
theorem AksAt.below {w w' : World} {a : Option Addr} {l : List Ak} (h : AksAt w a l) (hb : Below w.heap.size w w') : AksAt w' a l := fun k x hx => by
  obtain ⟨g, e, c0, c1, c2, c3, c4⟩ := h k x hx
  exact ⟨g, e, cell_later hb c0, cell_later hb c1, cell_later hb c2, cell_later hb c3, cell_later hb c4⟩
theorem flat_ak : ∀ (l : List Ak) (j : Nat) (x : Ak), l[j]? = some x → ∀ i v, (akCells x)[i]? = some v → (l.flatMap akCells)[j * 5 + i]? = some v
  | [], _, _, h => by simp at h
  | a :: l, 0, e, h => by
    simp at h; subst h
    intro i v hv
    rw [Nat.zero_mul, Nat.zero_add, List.flatMap_cons, List.getElem?_append_left (List.getElem?_eq_some_iff.1 hv).1]
    exact hv
  | a :: l, j + 1, e, h => by
    intro i v hv
    have := flat_ak l j e (by simpa using h) i v hv
    have h6 : (akCells a).length = 5 := rfl
    rw [List.flatMap_cons, List.getElem?_append_right (by rw [h6]; omega), h6, show (j + 1) * 5 + i - 5 = j * 5 + i by omega]
    exact this
theorem aksAt_row {w : World} {B n c : Nat} {a : Option Addr} {l : List Ak} (hn : n = l.length) (h : w.ownsRow B 37 5 (.slice a n c) n (l.flatMap akCells)) : AksAt w a l := fun k x hx => by
  subst hn
  have hk := (List.getElem?_eq_some_iff.1 hx).1
  rcases h.2 with ⟨h1, h2⟩ | ⟨g, cap, cur, h1, _⟩
  · omega
  · simp only [Value.slice.injEq] at h1
    obtain ⟨rfl, _, rfl⟩ := h1
    have c := fun i v hv => flat_ak l k x hx i v hv
    exact ⟨g, rfl, by rw [h.cellAt _ (by omega)]; exact c 0 _ rfl, by rw [h.cellAt _ (by omega)]; exact c 1 _ rfl, by rw [h.cellAt _ (by omega)]; exact c 2 _ rfl, by rw [h.cellAt _ (by omega)]; exact c 3 _ rfl, by rw [h.cellAt _ (by omega)]; exact c 4 _ rfl⟩

/-- One answer of Asks. -/
def AsP (l : List Ak) (x : Int) (w : World) (e : Ending) (w' : World) : Prop :=
  ∃ a c, e = .returned (.tuple #[.slice a l.length c, .int .i64 x]) ∧ Below w.heap.size w w' ∧ w'.ownsRow w.heap.size 37 5 (.slice a l.length c) l.length (l.flatMap akCells) ∧ (x ≠ 0 → a = none)
theorem asP_nil {x : Int} {w w' : World} {e : Ending} (he : e = .returned (.tuple #[.slice none 0 0, .int .i64 x])) (hb : Below w.heap.size w w') : AsP [] x w e w' :=
  ⟨none, 0, he, hb, World.ownsRow_nil _ _ _ _, fun _ => rfl⟩
end Go.Proofs.YtdfndcbakcmgiabDoor
namespace Go.Proofs.YtdfndcbakcmgiabDoor
open Go.RowKit

/-! The locks of a thread, by their numbers. -/
def heldL (has : List (Option Nat)) (t : Nat) : List Nat := (List.range 6).filter fun k => decide (has[k]?.getD none = some t)
theorem holds_held (has : List (Option Nat)) (t : Nat) : ∀ (d k : Nat), 6 - k = d → k ≤ 6 → holdsLoop has t k (letS 97 ((List.range k).filter fun k => decide (has[k]?.getD none = some t))) = letS 97 (heldL has t) := by
  intro d
  induction d with
  | zero =>
    intro k hd hk
    have : k = 6 := by omega
    subst this
    rw [holdsLoop, if_neg (by omega)]; rfl
  | succ d ih =>
    intro k hd hk
    have hk6 : k < 6 := by omega
    have := ih (k + 1) (by omega) (by omega)
    rw [holdsLoop, if_pos hk6, lock_let k hk6, letS_snoc, ← this, List.range_succ, List.filter_append]
    congr 1
    split
    · rename_i h; simp [h]
    · rename_i h; simp [h]
theorem holdsOf_held (W : Wd) (t : Nat) : holdsOf W t = letS 97 (heldL W.has t) := holds_held W.has t _ 0 rfl (by omega)
theorem heldL_mem {has : List (Option Nat)} {t k : Nat} : k ∈ heldL has t ↔ k < 6 ∧ has[k]?.getD none = some t := by simp [heldL]
theorem heldL_lt (has : List (Option Nat)) (t : Nat) : (heldL has t).Pairwise (· < ·) := List.Pairwise.filter _ List.pairwise_lt_range
theorem heldL_len (has : List (Option Nat)) (t : Nat) : (heldL has t).length ≤ 6 := Nat.le_trans (List.length_filter_le _ _) (by simp)
def allL (has : List (Option Nat)) : Nat → List Nat
  | 0 => []
  | t + 1 => allL has t ++ heldL has t
theorem allL_mem {has : List (Option Nat)} {k : Nat} : ∀ {t : Nat}, k ∈ allL has t → ∃ u, u < t ∧ k ∈ heldL has u
  | 0, h => by simp [allL] at h
  | t + 1, h => by
    rw [allL, List.mem_append] at h
    rcases h with h | h
    · obtain ⟨u, hu, hk⟩ := allL_mem h
      exact ⟨u, by omega, hk⟩
    · exact ⟨t, by omega, h⟩
theorem allL_len (has : List (Option Nat)) : ∀ t, (allL has t).length ≤ 6 * t
  | 0 => Nat.le_refl _
  | t + 1 => by
    rw [allL, List.length_append]
    have := allL_len has t
    have := heldL_len has t
    omega
theorem not_twice {has : List (Option Nat)} {t i k : Nat} (hk : (heldL has t)[i]? = some k) : k ∉ allL has t ++ (heldL has t).take i := by
  intro h
  have hm := heldL_mem.1 (List.mem_of_getElem? hk)
  rcases List.mem_append.1 h with h | h
  · obtain ⟨u, hu, hku⟩ := allL_mem h
    have := (heldL_mem.1 hku).2
    rw [hm.2] at this
    cases this
    omega
  · obtain ⟨j, hj, he⟩ := List.getElem_of_mem h
    have hj' : j < i := by have := hj; simp at this; omega
    rw [List.getElem_take] at he
    obtain ⟨hi, he2⟩ := List.getElem?_eq_some_iff.1 hk
    have := List.pairwise_iff_getElem.1 (heldL_lt has t) j i (by omega) hi hj'
    omega

theorem letS_size (c : Nat) (l : List Nat) : (letS c l).size = l.length := by simp [letS, ByteArray.size]
theorem letS_ext (c : Nat) (l : List Nat) (i : Nat) (k : Nat) (h : l[i]? = some k) : (letS c l).extract i (i + 1) = letS c [k] := by
  obtain ⟨hi, rfl⟩ := List.getElem?_eq_some_iff.1 h
  apply ByteArray.ext
  simp only [letS, ByteArray.data_extract]
  apply Array.ext'
  simp
  rw [List.take_one, List.head?_drop, List.getElem?_map, h]
  rfl
theorem letS_one (a b : Nat) (ha : a < 100) (hb : b < 100) : ((letS 97 [a]).toList == (letS 97 [b]).toList) = decide (a = b) := by
  by_cases h : a = b
  · subst h; simp
  · rw [decide_eq_false h]
    refine beq_false_of_ne fun hh => h ?_
    rw [ByteArray.toList_eq, ByteArray.toList_eq] at hh
    simp only [letS, List.map_cons, List.map_nil, List.cons.injEq, and_true] at hh
    have := congrArg UInt8.toNat hh
    rw [UInt8.toNat_ofNat', UInt8.toNat_ofNat'] at this
    omega

end Go.Proofs.YtdfndcbakcmgiabDoor
