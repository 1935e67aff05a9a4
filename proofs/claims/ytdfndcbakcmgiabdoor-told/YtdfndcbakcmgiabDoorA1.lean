import Derived.Test.YtdfndcbakcmgiabDoorRows
import Derived.WalkKit
import Derived.WalkSpells
import Derived.WalkLawsBesides
namespace Go.Proofs.YtdfndcbakcmgiabDoor
open Go.RowKit

def atFrom (s : ByteArray) (c : UInt8) (k : Nat) : Int :=
  if h : k < s.size then (if s[k] = c then (k : Int) else atFrom s c (k + 1)) else -1
termination_by s.size - k

theorem ret_int {k : IntKind} {a b : Int} (h : a = b) : Ending.returned (.int k a) = .returned (.int k b) := by rw [h]
theorem u8_eq {a b : UInt8} : a = b ↔ (a.toNat : Int) = (b.toNat : Int) := by
  rw [← UInt8.toNat_inj]; omega

end Go.Proofs.YtdfndcbakcmgiabDoor
namespace Go.Proofs.YtdfndcbakcmgiabDoor
open Go.RowKit

/-- The byte at a place, as a number; 0 behind the end. -/
def byteI (s : ByteArray) (k : Nat) : Int := if h : k < s.size then (s[k].toNat : Int) else 0
theorem byteI_lo (s : ByteArray) (k : Nat) : 0 ≤ byteI s k := by unfold byteI; split <;> omega
theorem byteI_hi (s : ByteArray) (k : Nat) : byteI s k ≤ 255 := by
  unfold byteI; split
  · have := UInt8.toNat_lt s[k]; omega
  · omega
theorem byteI_in {s : ByteArray} {k : Nat} (h : k < s.size) : (s[k].toNat : Int) = byteI s k := by rw [byteI, dif_pos h]

structure Stp where
  kind : Int
  which : Int
  count : Int
def stpV (x : Stp) : Value := .agg #[.int .i64 x.kind, .int .i64 x.which, .int .i64 x.count]
/-- What a reader of a step answers. -/
def readV (r : Stp × Nat × Bool) : Value := .tuple #[.agg #[.int .i64 r.1.kind, .int .i64 r.1.which, .int .i64 r.1.count], .int .i64 r.2.1, .bool r.2.2]

set_option maxHeartbeats 400000 in
theorem byteAt_any (s : ByteArray) (i : Int) (k : Nat) (hi : i = k) (w : World) (_hs : s.size ≤ maxLen) :
    Calls Tryd.prog 50 #[.string s, .int .i64 i] w fun e w' => e = .returned (.int .u8 (byteI s k)) ∧ w' = w := by
  unfold maxLen at _hs
  subst hi
  by_cases hlt : k < s.size
  · have hn : ¬ ((k : Int) < 0) := by omega
    go_enter Tryd.func50, Tryd.ntmps50
    go_wp2
    go_ret
    exact ⟨ret_int (byteI_in hlt), rfl⟩
  · have hn : ¬ ((k : Int) < 0) := by omega
    go_enter Tryd.func50, Tryd.ntmps50
    go_wp2
    go_ret
    exact ⟨ret_int (by rw [byteI, dif_neg hlt]), rfl⟩

def readNamed (s : ByteArray) (k : Nat) (kind f l : Int) : Stp × Nat × Bool :=
  if byteI s k < f ∨ l < byteI s k then (⟨0, 0, 0⟩, k, false) else (⟨kind, byteI s k - f, 0⟩, k + 1, true)

set_option maxHeartbeats 400000 in
theorem readNamed_any (s : ByteArray) (i : Int) (k : Nat) (hi : i = k) (kind f l : Int) (w : World) (hs : s.size ≤ maxLen) (_hk : (k : Int) ≤ 1000000) (_hf : 0 ≤ f) (_hl : l ≤ 255) :
    Calls Tryd.prog 70 #[.string s, .int .i64 i, .int .i64 kind, .int .u8 f, .int .u8 l] w fun e w' => e = .returned (readV (readNamed s k kind f l)) ∧ Below w.heap.size w w' := by
  subst hi
  have hlo := byteI_lo s k
  have hhi := byteI_hi s k
  by_cases h1 : byteI s k < f
  · have hr : readNamed s k kind f l = (⟨0, 0, 0⟩, k, false) := by rw [readNamed, if_pos (.inl h1)]
    rw [hr]; clear hr
    go_enter Tryd.func70, Tryd.ntmps70
    go_wp2_with (go_at_call 50; refine (byteAt_any s _ k rfl _ hs).mono ?_; rintro e w' ⟨rfl, rfl⟩)
    exact bodyPost_ret (v := readV (⟨0, 0, 0⟩, k, false)) (by simp [results, Tryd.results70, go_sem, readV]) rfl ⟨rfl, (Below.refl _ _).alloc (Nat.le_refl _) _⟩
  · by_cases h2 : l < byteI s k
    · have hr : readNamed s k kind f l = (⟨0, 0, 0⟩, k, false) := by rw [readNamed, if_pos (.inr h2)]
      rw [hr]; clear hr
      go_enter Tryd.func70, Tryd.ntmps70
      go_wp2_with (go_at_call 50; refine (byteAt_any s _ k rfl _ hs).mono ?_; rintro e w' ⟨rfl, rfl⟩)
      exact bodyPost_ret (v := readV (⟨0, 0, 0⟩, k, false)) (by simp [results, Tryd.results70, go_sem, readV]) rfl ⟨rfl, (Below.refl _ _).alloc (Nat.le_refl _) _⟩
    · have hr : readNamed s k kind f l = (⟨kind, byteI s k - f, 0⟩, k + 1, true) := by rw [readNamed, if_neg (by omega)]
      rw [hr]; clear hr
      go_enter Tryd.func70, Tryd.ntmps70
      go_wp2_with (go_at_call 50; refine (byteAt_any s _ k rfl _ hs).mono ?_; rintro e w' ⟨rfl, rfl⟩)
      exact bodyPost_ret (v := readV (⟨kind, byteI s k - f, 0⟩, k + 1, true)) (by simp [results, Tryd.results70, go_sem, readV]) rfl ⟨rfl, (Below.refl _ _).alloc (Nat.le_refl _) _⟩

theorem readNamed_no (s : ByteArray) (i : Int) (k : Nat) (hi : i = k) (kind f l : Int) (w : World) (hs : s.size ≤ maxLen) (hk : (k : Int) ≤ 1000000) (hf : 0 ≤ f) (hl : l ≤ 255) (h : byteI s k < f ∨ l < byteI s k) :
    Calls Tryd.prog 70 #[.string s, .int .i64 i, .int .i64 kind, .int .u8 f, .int .u8 l] w fun e w' => e = .returned (.tuple #[.agg #[.int .i64 0, .int .i64 0, .int .i64 0], .int .i64 k, .bool false]) ∧ Below w.heap.size w w' := by
  have := readNamed_any s i k hi kind f l w hs hk hf hl
  rwa [readNamed, if_pos h] at this
theorem readNamed_yes (s : ByteArray) (i : Int) (k : Nat) (hi : i = k) (kind f l : Int) (w : World) (hs : s.size ≤ maxLen) (hk : (k : Int) ≤ 1000000) (hf : 0 ≤ f) (hl : l ≤ 255) (h1 : f ≤ byteI s k) (h2 : byteI s k ≤ l) :
    Calls Tryd.prog 70 #[.string s, .int .i64 i, .int .i64 kind, .int .u8 f, .int .u8 l] w fun e w' => e = .returned (.tuple #[.agg #[.int .i64 kind, .int .i64 (byteI s k - f), .int .i64 0], .int .i64 (k + 1), .bool true]) ∧ Below w.heap.size w w' := by
  have := readNamed_any s i k hi kind f l w hs hk hf hl
  rw [readNamed, if_neg (by omega)] at this
  simpa [readV] using this
theorem bcell {W w1 : World} (hb : Below W.heap.size W w1) : (∀ b o, b < W.heap.size → w1.cell? ⟨b, o, none⟩ = W.cell? ⟨b, o, none⟩) ∧ (∀ b o, b < W.heap.size → w1.frozen? ⟨b, o, none⟩ = W.frozen? ⟨b, o, none⟩) :=
  ⟨fun b o h => hb.cell (p := ⟨b, o, none⟩) h, fun b o h => hb.frozen (p := ⟨b, o, none⟩) h⟩

theorem below_new {w w1 : World} {cs : Array Value} {T : TypeId} (hb : Below (w.alloc (.cells cs T)).heap.size (w.alloc (.cells cs T)) w1) :
    (∀ j v, cs[j]? = some v → w1.cell? ⟨w.heap.size, j, none⟩ = some v) ∧ (∀ j, w1.frozen? ⟨w.heap.size, j, none⟩ = false) ∧ w.heap.size < w1.heap.size ∧ Below w.heap.size w w1 := by
  have hn := heap_alloc_new w (.cells cs T)
  refine ⟨fun j v h => ?_, fun j => ?_, ?_, ?_⟩
  · rw [hb.cell (p := ⟨w.heap.size, j, none⟩) (by simp), cell_of_row _ _ _ _ _ _ hn, h]
  · rw [hb.frozen (p := ⟨w.heap.size, j, none⟩) (by simp), frozen_of_row _ _ _ _ _ hn]
  · have := hb.size; simp at this; omega
  · exact ((Below.refl _ w).alloc (Nat.le_refl _) _).trans (hb.mono (by simp))

def readSkip (s : ByteArray) (k : Nat) : Stp × Nat × Bool :=
  if byteI s k < 117 ∨ 122 < byteI s k then (⟨0, 0, 0⟩, k, false)
  else if byteI s (k + 1) < 49 ∨ 57 < byteI s (k + 1) then (⟨0, 0, 0⟩, k + 1, false)
  else (⟨5, byteI s k - 117, byteI s (k + 1) - 48⟩, k + 1 + 1, true)

set_option maxHeartbeats 1000000 in
theorem readSkip_any (s : ByteArray) (i : Int) (k : Nat) (hi : i = k) (w : World) (hs : s.size ≤ maxLen) (hk : (k : Int) ≤ 999999) :
    Calls Tryd.prog 71 #[.string s, .int .i64 i] w fun e w' => e = .returned (readV (readSkip s k)) ∧ Below w.heap.size w w' := by
  subst hi
  have hlo := byteI_lo s k
  have hhi := byteI_hi s k
  have hlo1 := byteI_lo s (k + 1)
  have hhi1 := byteI_hi s (k + 1)
  by_cases h1 : byteI s k < 117 ∨ 122 < byteI s k
  · have hr : readSkip s k = (⟨0, 0, 0⟩, k, false) := by rw [readSkip, if_pos h1]
    rw [hr]; clear hr
    go_enter Tryd.func71, Tryd.ntmps71
    go_wp2_with (go_at_call 70; refine (readNamed_no s _ k rfl _ _ _ _ hs (by omega) (by omega) (by omega) h1).mono ?_; rintro e w1 ⟨rfl, hb⟩; obtain ⟨hc, hf, hz, hB⟩ := below_new hb; have c0 : w1.cell? ⟨w.heap.size, 0, none⟩ = some (.int .i64 0) := hc 0 _ rfl; have c1 : w1.cell? ⟨w.heap.size, 1, none⟩ = some (.int .i64 0) := hc 1 _ rfl; have c2 : w1.cell? ⟨w.heap.size, 2, none⟩ = some (.int .i64 0) := hc 2 _ rfl; clear hc hb)
    exact bodyPost_ret (v := readV (⟨0, 0, 0⟩, k, false)) (by simp [results, Tryd.results71, go_sem, readV, hz, c0, c1, c2]) rfl ⟨rfl, (by repeat' (first | exact hB | refine Below.setCell ?_ (by simp) _ | refine Below.alloc ?_ (by simp; omega) _))⟩
  · by_cases h2 : byteI s (k + 1) < 49 ∨ 57 < byteI s (k + 1)
    · have hr : readSkip s k = (⟨0, 0, 0⟩, k + 1, false) := by rw [readSkip, if_neg h1, if_pos h2]
      rw [hr]; clear hr
      go_enter Tryd.func71, Tryd.ntmps71
      go_wp2_with (first | (go_at_call 70; refine (readNamed_yes s _ k rfl _ _ _ _ hs (by omega) (by omega) (by omega) (by omega) (by omega)).mono ?_; rintro e w1 ⟨rfl, hb⟩; obtain ⟨hc, hf, hz, hB⟩ := below_new hb; have c0 : w1.cell? ⟨w.heap.size, 0, none⟩ = some (.int .i64 0) := hc 0 _ rfl; have c1 : w1.cell? ⟨w.heap.size, 1, none⟩ = some (.int .i64 0) := hc 1 _ rfl; have c2 : w1.cell? ⟨w.heap.size, 2, none⟩ = some (.int .i64 0) := hc 2 _ rfl; clear hc hb) | (go_at_call 50; refine (byteAt_any s _ (k + 1) (by omega) _ hs).mono ?_; rintro e w2 ⟨rfl, rfl⟩))
      all_goals exact bodyPost_ret (v := readV (⟨0, 0, 0⟩, k + 1, false)) (by simp [results, Tryd.results71, go_sem, readV, hz, c0, c1, c2]) rfl ⟨rfl, (by repeat' (first | exact hB | refine Below.setCell ?_ (by simp) _ | refine Below.alloc ?_ (by simp; omega) _))⟩
    · have hr : readSkip s k = (⟨5, byteI s k - 117, byteI s (k + 1) - 48⟩, k + 1 + 1, true) := by rw [readSkip, if_neg h1, if_neg h2]
      rw [hr]; clear hr
      go_enter Tryd.func71, Tryd.ntmps71
      go_wp2_with (first | (go_at_call 70; refine (readNamed_yes s _ k rfl _ _ _ _ hs (by omega) (by omega) (by omega) (by omega) (by omega)).mono ?_; rintro e w1 ⟨rfl, hb⟩; obtain ⟨hc, hf, hz, hB⟩ := below_new hb; have c0 : w1.cell? ⟨w.heap.size, 0, none⟩ = some (.int .i64 0) := hc 0 _ rfl; have c1 : w1.cell? ⟨w.heap.size, 1, none⟩ = some (.int .i64 0) := hc 1 _ rfl; have c2 : w1.cell? ⟨w.heap.size, 2, none⟩ = some (.int .i64 0) := hc 2 _ rfl; clear hc hb) | (go_at_call 50; refine (byteAt_any s _ (k + 1) (by omega) _ hs).mono ?_; rintro e w2 ⟨rfl, rfl⟩))

      exact bodyPost_ret (v := readV (⟨5, byteI s k - 117, byteI s (k + 1) - 48⟩, k + 1 + 1, true)) (by simp [results, Tryd.results71, go_sem, readV, hz, c0, c1, c2]) rfl ⟨rfl, (by repeat' (first | exact hB | refine Below.setCell ?_ (by simp) _ | refine Below.alloc ?_ (by simp; omega) _))⟩

def readStep (s : ByteArray) (k : Nat) : Stp × Nat × Bool :=
  if byteI s k = 46 then (⟨0, 0, 0⟩, k + 1, true)
  else if 97 ≤ byteI s k ∧ byteI s k ≤ 102 then readNamed s k 1 97 102
  else if 65 ≤ byteI s k ∧ byteI s k ≤ 70 then readNamed s k 2 65 70
  else if byteI s k = 33 then readNamed s (k + 1) 3 117 122
  else if byteI s k = 126 then readNamed s (k + 1) 4 117 122
  else if byteI s k = 63 then readSkip s (k + 1)
  else if byteI s k = 62 then readNamed s (k + 1) 6 48 57
  else if byteI s k = 60 then readNamed s (k + 1) 7 48 57
  else (⟨0, 0, 0⟩, k, false)

set_option maxHeartbeats 1000000 in
theorem readStep_dot (s : ByteArray) (k : Nat) (w : World) (hs : s.size ≤ maxLen) (hk : (k : Int) ≤ 999998) (h : byteI s k = 46) :
    Calls Tryd.prog 49 #[.string s, .int .i64 k] w fun e w' => e = .returned (readV ((⟨0, 0, 0⟩, k + 1, true))) ∧ Below w.heap.size w w' := by
  have hx := h
  clear h
  go_enter Tryd.func49, Tryd.ntmps49
  go_wp2_with (go_at_call 50; refine (byteAt_any s _ k rfl _ hs).mono ?_; rintro e w2 ⟨rfl, rfl⟩)
  exact bodyPost_ret (v := readV (⟨0, 0, 0⟩, k + 1, true)) (by simp [results, Tryd.results49, go_sem, readV]) rfl ⟨rfl, (Below.refl _ _).alloc (Nat.le_refl _) _⟩

set_option maxHeartbeats 1000000 in
theorem readStep_take (s : ByteArray) (k : Nat) (w : World) (hs : s.size ≤ maxLen) (hk : (k : Int) ≤ 999998) (h : 97 ≤ byteI s k ∧ byteI s k ≤ 102) :
    Calls Tryd.prog 49 #[.string s, .int .i64 k] w fun e w' => e = .returned (readV (readNamed s k 1 97 102)) ∧ Below w.heap.size w w' := by
  obtain ⟨h1, h2⟩ := h
  generalize hr : readNamed s k 1 97 102 = r
  go_enter Tryd.func49, Tryd.ntmps49
  go_wp2_with (first | (go_at_call 50; refine (byteAt_any s _ k rfl _ hs).mono ?_; rintro e w2 ⟨rfl, rfl⟩) | (go_at_call 70; refine (readNamed_any s _ k (by omega) _ _ _ _ hs (by omega) (by omega) (by omega)).mono ?_; rintro e w1 ⟨he, hb⟩; rw [readV] at he; subst he; obtain ⟨hc, hf, hz, hB⟩ := below_new hb; have c0 : w1.cell? ⟨w.heap.size, 0, none⟩ = some (.int .i64 0) := hc 0 _ rfl; have c1 : w1.cell? ⟨w.heap.size, 1, none⟩ = some (.int .i64 0) := hc 1 _ rfl; have c2 : w1.cell? ⟨w.heap.size, 2, none⟩ = some (.int .i64 0) := hc 2 _ rfl; clear hc hb))
  exact bodyPost_ret (v := readV r) (by simp [results, Tryd.results49, go_sem, readV, c0, c1, c2]) rfl ⟨rfl, (by repeat' (first | exact hB | refine Below.setCell ?_ (by simp) _ | refine Below.alloc ?_ (by simp; omega) _))⟩

set_option maxHeartbeats 1000000 in
theorem readStep_give (s : ByteArray) (k : Nat) (w : World) (hs : s.size ≤ maxLen) (hk : (k : Int) ≤ 999998) (h : 65 ≤ byteI s k ∧ byteI s k ≤ 70) :
    Calls Tryd.prog 49 #[.string s, .int .i64 k] w fun e w' => e = .returned (readV (readNamed s k 2 65 70)) ∧ Below w.heap.size w w' := by
  obtain ⟨h1, h2⟩ := h
  generalize hr : readNamed s k 2 65 70 = r
  go_enter Tryd.func49, Tryd.ntmps49
  go_wp2_with (first | (go_at_call 50; refine (byteAt_any s _ k rfl _ hs).mono ?_; rintro e w2 ⟨rfl, rfl⟩) | (go_at_call 70; refine (readNamed_any s _ k (by omega) _ _ _ _ hs (by omega) (by omega) (by omega)).mono ?_; rintro e w1 ⟨he, hb⟩; rw [readV] at he; subst he; obtain ⟨hc, hf, hz, hB⟩ := below_new hb; have c0 : w1.cell? ⟨w.heap.size, 0, none⟩ = some (.int .i64 0) := hc 0 _ rfl; have c1 : w1.cell? ⟨w.heap.size, 1, none⟩ = some (.int .i64 0) := hc 1 _ rfl; have c2 : w1.cell? ⟨w.heap.size, 2, none⟩ = some (.int .i64 0) := hc 2 _ rfl; clear hc hb))
  exact bodyPost_ret (v := readV r) (by simp [results, Tryd.results49, go_sem, readV, c0, c1, c2]) rfl ⟨rfl, (by repeat' (first | exact hB | refine Below.setCell ?_ (by simp) _ | refine Below.alloc ?_ (by simp; omega) _))⟩

set_option maxHeartbeats 1000000 in
theorem readStep_set (s : ByteArray) (k : Nat) (w : World) (hs : s.size ≤ maxLen) (hk : (k : Int) ≤ 999998) (h : byteI s k = 33) :
    Calls Tryd.prog 49 #[.string s, .int .i64 k] w fun e w' => e = .returned (readV (readNamed s (k + 1) 3 117 122)) ∧ Below w.heap.size w w' := by
  have hx := h
  clear h
  generalize hr : readNamed s (k + 1) 3 117 122 = r
  go_enter Tryd.func49, Tryd.ntmps49
  go_wp2_with (first | (go_at_call 50; refine (byteAt_any s _ k rfl _ hs).mono ?_; rintro e w2 ⟨rfl, rfl⟩) | (go_at_call 70; refine (readNamed_any s _ (k + 1) (by omega) _ _ _ _ hs (by omega) (by omega) (by omega)).mono ?_; rintro e w1 ⟨he, hb⟩; rw [readV] at he; subst he; obtain ⟨hc, hf, hz, hB⟩ := below_new hb; have c0 : w1.cell? ⟨w.heap.size, 0, none⟩ = some (.int .i64 0) := hc 0 _ rfl; have c1 : w1.cell? ⟨w.heap.size, 1, none⟩ = some (.int .i64 0) := hc 1 _ rfl; have c2 : w1.cell? ⟨w.heap.size, 2, none⟩ = some (.int .i64 0) := hc 2 _ rfl; clear hc hb))
  exact bodyPost_ret (v := readV r) (by simp [results, Tryd.results49, go_sem, readV, c0, c1, c2]) rfl ⟨rfl, (by repeat' (first | exact hB | refine Below.setCell ?_ (by simp) _ | refine Below.alloc ?_ (by simp; omega) _))⟩

set_option maxHeartbeats 1000000 in
theorem readStep_clear (s : ByteArray) (k : Nat) (w : World) (hs : s.size ≤ maxLen) (hk : (k : Int) ≤ 999998) (h : byteI s k = 126) :
    Calls Tryd.prog 49 #[.string s, .int .i64 k] w fun e w' => e = .returned (readV (readNamed s (k + 1) 4 117 122)) ∧ Below w.heap.size w w' := by
  have hx := h
  clear h
  generalize hr : readNamed s (k + 1) 4 117 122 = r
  go_enter Tryd.func49, Tryd.ntmps49
  go_wp2_with (first | (go_at_call 50; refine (byteAt_any s _ k rfl _ hs).mono ?_; rintro e w2 ⟨rfl, rfl⟩) | (go_at_call 70; refine (readNamed_any s _ (k + 1) (by omega) _ _ _ _ hs (by omega) (by omega) (by omega)).mono ?_; rintro e w1 ⟨he, hb⟩; rw [readV] at he; subst he; obtain ⟨hc, hf, hz, hB⟩ := below_new hb; have c0 : w1.cell? ⟨w.heap.size, 0, none⟩ = some (.int .i64 0) := hc 0 _ rfl; have c1 : w1.cell? ⟨w.heap.size, 1, none⟩ = some (.int .i64 0) := hc 1 _ rfl; have c2 : w1.cell? ⟨w.heap.size, 2, none⟩ = some (.int .i64 0) := hc 2 _ rfl; clear hc hb))
  exact bodyPost_ret (v := readV r) (by simp [results, Tryd.results49, go_sem, readV, c0, c1, c2]) rfl ⟨rfl, (by repeat' (first | exact hB | refine Below.setCell ?_ (by simp) _ | refine Below.alloc ?_ (by simp; omega) _))⟩

set_option maxHeartbeats 1000000 in
theorem readStep_skip (s : ByteArray) (k : Nat) (w : World) (hs : s.size ≤ maxLen) (hk : (k : Int) ≤ 999998) (h : byteI s k = 63) :
    Calls Tryd.prog 49 #[.string s, .int .i64 k] w fun e w' => e = .returned (readV (readSkip s (k + 1))) ∧ Below w.heap.size w w' := by
  have hx := h
  clear h
  generalize hr : readSkip s (k + 1) = r
  go_enter Tryd.func49, Tryd.ntmps49
  go_wp2_with (first | (go_at_call 50; refine (byteAt_any s _ k rfl _ hs).mono ?_; rintro e w2 ⟨rfl, rfl⟩) | (go_at_call 71; refine (readSkip_any s _ (k + 1) (by omega) _ hs (by omega)).mono ?_; rintro e w1 ⟨he, hb⟩; rw [readV] at he; subst he; obtain ⟨hc, hf, hz, hB⟩ := below_new hb; have c0 : w1.cell? ⟨w.heap.size, 0, none⟩ = some (.int .i64 0) := hc 0 _ rfl; have c1 : w1.cell? ⟨w.heap.size, 1, none⟩ = some (.int .i64 0) := hc 1 _ rfl; have c2 : w1.cell? ⟨w.heap.size, 2, none⟩ = some (.int .i64 0) := hc 2 _ rfl; clear hc hb))
  exact bodyPost_ret (v := readV r) (by simp [results, Tryd.results49, go_sem, readV, c0, c1, c2]) rfl ⟨rfl, (by repeat' (first | exact hB | refine Below.setCell ?_ (by simp) _ | refine Below.alloc ?_ (by simp; omega) _))⟩

set_option maxHeartbeats 1000000 in
theorem readStep_start (s : ByteArray) (k : Nat) (w : World) (hs : s.size ≤ maxLen) (hk : (k : Int) ≤ 999998) (h : byteI s k = 62) :
    Calls Tryd.prog 49 #[.string s, .int .i64 k] w fun e w' => e = .returned (readV (readNamed s (k + 1) 6 48 57)) ∧ Below w.heap.size w w' := by
  have hx := h
  clear h
  generalize hr : readNamed s (k + 1) 6 48 57 = r
  go_enter Tryd.func49, Tryd.ntmps49
  go_wp2_with (first | (go_at_call 50; refine (byteAt_any s _ k rfl _ hs).mono ?_; rintro e w2 ⟨rfl, rfl⟩) | (go_at_call 70; refine (readNamed_any s _ (k + 1) (by omega) _ _ _ _ hs (by omega) (by omega) (by omega)).mono ?_; rintro e w1 ⟨he, hb⟩; rw [readV] at he; subst he; obtain ⟨hc, hf, hz, hB⟩ := below_new hb; have c0 : w1.cell? ⟨w.heap.size, 0, none⟩ = some (.int .i64 0) := hc 0 _ rfl; have c1 : w1.cell? ⟨w.heap.size, 1, none⟩ = some (.int .i64 0) := hc 1 _ rfl; have c2 : w1.cell? ⟨w.heap.size, 2, none⟩ = some (.int .i64 0) := hc 2 _ rfl; clear hc hb))
  exact bodyPost_ret (v := readV r) (by simp [results, Tryd.results49, go_sem, readV, c0, c1, c2]) rfl ⟨rfl, (by repeat' (first | exact hB | refine Below.setCell ?_ (by simp) _ | refine Below.alloc ?_ (by simp; omega) _))⟩

set_option maxHeartbeats 1000000 in
theorem readStep_join (s : ByteArray) (k : Nat) (w : World) (hs : s.size ≤ maxLen) (hk : (k : Int) ≤ 999998) (h : byteI s k = 60) :
    Calls Tryd.prog 49 #[.string s, .int .i64 k] w fun e w' => e = .returned (readV (readNamed s (k + 1) 7 48 57)) ∧ Below w.heap.size w w' := by
  have hx := h
  clear h
  generalize hr : readNamed s (k + 1) 7 48 57 = r
  go_enter Tryd.func49, Tryd.ntmps49
  go_wp2_with (first | (go_at_call 50; refine (byteAt_any s _ k rfl _ hs).mono ?_; rintro e w2 ⟨rfl, rfl⟩) | (go_at_call 70; refine (readNamed_any s _ (k + 1) (by omega) _ _ _ _ hs (by omega) (by omega) (by omega)).mono ?_; rintro e w1 ⟨he, hb⟩; rw [readV] at he; subst he; obtain ⟨hc, hf, hz, hB⟩ := below_new hb; have c0 : w1.cell? ⟨w.heap.size, 0, none⟩ = some (.int .i64 0) := hc 0 _ rfl; have c1 : w1.cell? ⟨w.heap.size, 1, none⟩ = some (.int .i64 0) := hc 1 _ rfl; have c2 : w1.cell? ⟨w.heap.size, 2, none⟩ = some (.int .i64 0) := hc 2 _ rfl; clear hc hb))
  exact bodyPost_ret (v := readV r) (by simp [results, Tryd.results49, go_sem, readV, c0, c1, c2]) rfl ⟨rfl, (by repeat' (first | exact hB | refine Below.setCell ?_ (by simp) _ | refine Below.alloc ?_ (by simp; omega) _))⟩

set_option maxHeartbeats 1000000 in
theorem readStep_none (s : ByteArray) (k : Nat) (w : World) (hs : s.size ≤ maxLen) (h1 : byteI s k ≠ 46) (h2 : ¬ (97 ≤ byteI s k ∧ byteI s k ≤ 102)) (h3 : ¬ (65 ≤ byteI s k ∧ byteI s k ≤ 70))
    (h4 : byteI s k ≠ 33) (h5 : byteI s k ≠ 126) (h6 : byteI s k ≠ 63) (h7 : byteI s k ≠ 62) (h8 : byteI s k ≠ 60) :
    Calls Tryd.prog 49 #[.string s, .int .i64 k] w fun e w' => e = .returned (readV (⟨0, 0, 0⟩, k, false)) ∧ Below w.heap.size w w' := by
  by_cases g1 : 97 ≤ byteI s k
  all_goals by_cases g2 : 65 ≤ byteI s k
  all_goals try (exfalso; omega)
  all_goals
    go_enter Tryd.func49, Tryd.ntmps49
    go_wp2_with (go_at_call 50; refine (byteAt_any s _ k rfl _ hs).mono ?_; rintro e w2 ⟨rfl, rfl⟩)
    exact bodyPost_ret (v := readV (⟨0, 0, 0⟩, k, false)) (by simp [results, Tryd.results49, go_sem, readV]) rfl ⟨rfl, (Below.refl _ _).alloc (Nat.le_refl _) _⟩

theorem readStep_any (s : ByteArray) (k : Nat) (w : World) (hs : s.size ≤ maxLen) (hk : (k : Int) ≤ 999998) :
    Calls Tryd.prog 49 #[.string s, .int .i64 k] w fun e w' => e = .returned (readV (readStep s k)) ∧ Below w.heap.size w w' := by
  unfold readStep
  split
  · exact readStep_dot s k w hs hk (by assumption)
  split
  · exact readStep_take s k w hs hk (by assumption)
  split
  · exact readStep_give s k w hs hk (by assumption)
  split
  · exact readStep_set s k w hs hk (by assumption)
  split
  · exact readStep_clear s k w hs hk (by assumption)
  split
  · exact readStep_skip s k w hs hk (by assumption)
  split
  · exact readStep_start s k w hs hk (by assumption)
  split
  · exact readStep_join s k w hs hk (by assumption)
  · exact readStep_none s k w hs (by assumption) (by assumption) (by assumption) (by assumption) (by assumption) (by assumption) (by assumption) (by assumption)

end Go.Proofs.YtdfndcbakcmgiabDoor
