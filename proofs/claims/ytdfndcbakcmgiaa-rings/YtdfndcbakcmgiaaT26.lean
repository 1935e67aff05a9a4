import Derived.Test.YtdfndcbakcmgiaaT22
namespace Go.Proofs.Ytdfndcbakcmgiaa
open Go.RowKit

/-! The locks of a thread, by their numbers. -/
def heldL (has : List (Option Nat)) (t : Nat) : List Nat := (List.range 6).filter fun k => decide (has[k]?.getD none = some t)
theorem holds_held (has : List (Option Nat)) (t : Nat) : ∀ (d k : Nat), 6 - k = d → k ≤ 6 → holdsLoop has t k (letS 97 ((List.range k).filter fun k => decide (has[k]?.getD none = some t))) = letS 97 (heldL has t) := by
  intro d
  induction d with
  | zero =>
    intro k hd hk
    have : k = 6 := by omega
    subst this
    rw [holdsLoop, if_neg (by omega)]; rfl
  | succ d ih =>
    intro k hd hk
    have hk6 : k < 6 := by omega
    have := ih (k + 1) (by omega) (by omega)
    rw [holdsLoop, if_pos hk6, lock_let k hk6, letS_snoc, ← this, List.range_succ, List.filter_append]
    congr 1
    split
    · rename_i h; simp [h]
    · rename_i h; simp [h]
theorem holdsOf_held (W : Wd) (t : Nat) : holdsOf W t = letS 97 (heldL W.has t) := holds_held W.has t _ 0 rfl (by omega)
theorem heldL_mem {has : List (Option Nat)} {t k : Nat} : k ∈ heldL has t ↔ k < 6 ∧ has[k]?.getD none = some t := by simp [heldL]
theorem heldL_lt (has : List (Option Nat)) (t : Nat) : (heldL has t).Pairwise (· < ·) := List.Pairwise.filter _ List.pairwise_lt_range
theorem heldL_len (has : List (Option Nat)) (t : Nat) : (heldL has t).length ≤ 6 := Nat.le_trans (List.length_filter_le _ _) (by simp)
def allL (has : List (Option Nat)) : Nat → List Nat
  | 0 => []
  | t + 1 => allL has t ++ heldL has t
theorem allL_mem {has : List (Option Nat)} {k : Nat} : ∀ {t : Nat}, k ∈ allL has t → ∃ u, u < t ∧ k ∈ heldL has u
  | 0, h => by simp [allL] at h
  | t + 1, h => by
    rw [allL, List.mem_append] at h
    rcases h with h | h
    · obtain ⟨u, hu, hk⟩ := allL_mem h
      exact ⟨u, by omega, hk⟩
    · exact ⟨t, by omega, h⟩
theorem allL_len (has : List (Option Nat)) : ∀ t, (allL has t).length ≤ 6 * t
  | 0 => Nat.le_refl _
  | t + 1 => by
    rw [allL, List.length_append]
    have := allL_len has t
    have := heldL_len has t
    omega
theorem not_twice {has : List (Option Nat)} {t i k : Nat} (hk : (heldL has t)[i]? = some k) : k ∉ allL has t ++ (heldL has t).take i := by
  intro h
  have hm := heldL_mem.1 (List.mem_of_getElem? hk)
  rcases List.mem_append.1 h with h | h
  · obtain ⟨u, hu, hku⟩ := allL_mem h
    have := (heldL_mem.1 hku).2
    rw [hm.2] at this
    cases this
    omega
  · obtain ⟨j, hj, he⟩ := List.getElem_of_mem h
    have hj' : j < i := by have := hj; simp at this; omega
    rw [List.getElem_take] at he
    obtain ⟨hi, he2⟩ := List.getElem?_eq_some_iff.1 hk
    have := List.pairwise_iff_getElem.1 (heldL_lt has t) j i (by omega) hi hj'
    omega

theorem letS_size (c : Nat) (l : List Nat) : (letS c l).size = l.length := by simp [letS, ByteArray.size]
theorem letS_ext (c : Nat) (l : List Nat) (i : Nat) (k : Nat) (h : l[i]? = some k) : (letS c l).extract i (i + 1) = letS c [k] := by
  obtain ⟨hi, rfl⟩ := List.getElem?_eq_some_iff.1 h
  apply ByteArray.ext
  simp only [letS, ByteArray.data_extract]
  apply Array.ext'
  simp
  rw [List.take_one, List.head?_drop, List.getElem?_map, h]
  rfl
theorem letS_one (a b : Nat) (ha : a < 100) (hb : b < 100) : ((letS 97 [a]).toList == (letS 97 [b]).toList) = decide (a = b) := by
  by_cases h : a = b
  · subst h; simp
  · rw [decide_eq_false h]
    refine beq_false_of_ne fun hh => h ?_
    rw [ByteArray.toList_eq, ByteArray.toList_eq] at hh
    simp only [letS, List.map_cons, List.map_nil, List.cons.injEq, and_true] at hh
    have := congrArg UInt8.toNat hh
    rw [UInt8.toNat_ofNat', UInt8.toNat_ofNat'] at this
    omega

set_option maxRecDepth 100000 in
set_option maxHeartbeats 2000000 in
theorem letter_any (k : Nat) (hk : k < 6) (l : List Nat) (hl : l.length ≤ 1000) (h6 : ∀ x ∈ l, x < 6) (w : World) :
    Calls Try.prog 70 #[.string (letS 97 [k]), .string (letS 97 l)] w fun e w' => e = .returned (.bool (decide (k ∈ l))) ∧ w' = w := by
  have hsz := letS_size 97 l
  go_enter Try.func70, Try.ntmps70
  go_wp2
  go_loop [5] (fun x => ∃ i : Nat, i ≤ l.length ∧ x = .int .i64 (i : Int) ∧ Hid (k ∉ l.take i)) (fun x => l.length - (intOf x).toNat)
  case atStart => exact ⟨0, Nat.zero_le _, rfl, by simp [Hid]⟩
  case round =>
    obtain ⟨i, hi, rfl, HN⟩ := hrel
    by_cases hil : i < l.length
    · obtain ⟨x, hx⟩ := get_some l i hil
      have hex := letS_ext 97 l i x hx
      have hx6 := h6 x (List.mem_of_getElem? hx)
      have heq := letS_one x k (by omega) (by omega)
      have i0 : (0 : Int) ≤ (i : Int) := by omega
      have il : (i : Int) < (l.length : Int) := by omega
      by_cases hxk : x = k
      · have HD : Hid (decide (k ∈ l) = true) := decide_eq_true (by rw [← hxk]; exact List.mem_of_getElem? hx)
        rw [decide_eq_true hxk] at heq
        clear hx
        go_wp2
        go_ret
        exact ⟨by rw [HD.out]; rfl, rfl⟩
      · have HN2 : Hid (k ∉ l.take (i + 1)) := by
          rw [Hid, List.take_add_one, hx]
          intro h
          rcases List.mem_append.1 h with h | h
          · exact HN.out h
          · simp at h; exact hxk h.symm
        rw [decide_eq_false hxk] at heq
        clear hx
        go_wp2
        go_round
        case rel => exact ⟨i + 1, by omega, rfl, HN2⟩
        case measure => (simp [intOf] <;> omega)
    · have il : ¬ (i : Int) < (l.length : Int) := by omega
      have HD : Hid (decide (k ∈ l) = false) := by
        have h := HN.out
        rw [show i = l.length by omega, List.take_length] at h
        exact decide_eq_false h
      go_wp2
      go_ret
      exact ⟨by rw [HD.out]; rfl, rfl⟩
end Go.Proofs.Ytdfndcbakcmgiaa
