import Derived.Test.YtdfndcbakcmgiaaDoorB4
namespace Go.Proofs.YtdfndcbakcmgiaaDoor
open Go.RowKit

/-- Where the number c stands in the row f, f + 1, .. of m numbers. -/
def atR (f m c : Int) : Int := if f ≤ c ∧ c < f + m then c - f else -1

theorem atFrom_range (s : ByteArray) (c : UInt8) (f : Nat) (hf : ∀ j (h : j < s.size), s[j].toNat = f + j) :
    ∀ (n k : Nat), s.size - k = n → (k : Int) ≤ s.size → atFrom s c k = if (f + k : Int) ≤ c.toNat ∧ (c.toNat : Int) < f + s.size then (c.toNat : Int) - f else -1 := by
  intro n
  induction n with
  | zero =>
    intro k hk hle
    rw [atFrom, dif_neg (by omega), if_neg (by omega)]
  | succ n ih =>
    intro k hk hle
    have hlt : k < s.size := by omega
    rw [atFrom, dif_pos hlt]
    by_cases he : s[k] = c
    · rw [if_pos he]
      have := hf k hlt
      rw [he] at this
      rw [if_pos (by omega)]
      omega
    · rw [if_neg he, ih (k + 1) (by omega) (by omega)]
      have hne : s[k].toNat ≠ c.toNat := fun h => he (UInt8.toNat_inj.1 h)
      rw [hf k hlt] at hne
      by_cases hc : (f + k : Int) ≤ c.toNat ∧ (c.toNat : Int) < f + s.size
      · rw [if_pos hc, if_pos (by omega)]
      · rw [if_neg hc, if_neg (by omega)]

def lockS : ByteArray := ⟨#[97, 98, 99, 100, 101, 102]⟩
def giveS : ByteArray := ⟨#[65, 66, 67, 68, 69, 70]⟩
def flagS : ByteArray := ⟨#[117, 118, 119, 120, 121, 122]⟩
def digitS : ByteArray := ⟨#[48, 49, 50, 51, 52, 53, 54, 55, 56, 57]⟩
theorem lockS_row : ∀ j (h : j < lockS.size), lockS[j].toNat = 97 + j := by decide
theorem giveS_row : ∀ j (h : j < giveS.size), giveS[j].toNat = 65 + j := by decide
theorem flagS_row : ∀ j (h : j < flagS.size), flagS[j].toNat = 117 + j := by decide
theorem digitS_row : ∀ j (h : j < digitS.size), digitS[j].toNat = 48 + j := by decide

/-- 'at' of a number in a constant string. -/
def atI (s : ByteArray) (n : Int) : Int := atFrom s (UInt8.ofNat n.toNat) 0
theorem at_n (s : ByteArray) (n : Int) (w : World) (h0 : 0 ≤ n) (h1 : n ≤ 255) (hs : s.size ≤ 100) :
    Calls Tryd.prog 25 #[.int .u8 n, .string s] w fun e w' => e = .returned (.int .i64 (atI s n)) ∧ w' = w := by
  have hc : ((UInt8.ofNat n.toNat).toNat : Int) = n := by
    rw [UInt8.toNat_ofNat']
    omega
  have := at_any (UInt8.ofNat n.toNat) s w (by unfold maxLen; omega)
  rwa [hc] at this
theorem atI_row (s : ByteArray) (n : Int) (f : Nat) (hf : ∀ j (h : j < s.size), s[j].toNat = f + j) (h0 : 0 ≤ n) (h1 : n ≤ 255) : atI s n = atR f s.size n := by
  have hc : ((UInt8.ofNat n.toNat).toNat : Int) = n := by
    rw [UInt8.toNat_ofNat']
    omega
  rw [atI, atFrom_range s _ f hf _ 0 rfl (by omega), hc, atR]
  simp
theorem atI_lock {n : Int} (h0 : 0 ≤ n) (h1 : n ≤ 255) : atI ⟨#[97, 98, 99, 100, 101, 102]⟩ n = atR 97 6 n := atI_row lockS n 97 lockS_row h0 h1
theorem atI_give {n : Int} (h0 : 0 ≤ n) (h1 : n ≤ 255) : atI ⟨#[65, 66, 67, 68, 69, 70]⟩ n = atR 65 6 n := atI_row giveS n 65 giveS_row h0 h1
theorem atI_flag {n : Int} (h0 : 0 ≤ n) (h1 : n ≤ 255) : atI ⟨#[117, 118, 119, 120, 121, 122]⟩ n = atR 117 6 n := atI_row flagS n 117 flagS_row h0 h1
theorem atI_digit {n : Int} (h0 : 0 ≤ n) (h1 : n ≤ 255) : atI ⟨#[48, 49, 50, 51, 52, 53, 54, 55, 56, 57]⟩ n = atR 48 10 n := atI_row digitS n 48 digitS_row h0 h1
theorem atR_yes {f m n : Int} (h1 : f ≤ n) (h2 : n < f + m) : atR f m n = n - f := by rw [atR, if_pos ⟨h1, h2⟩]
theorem atR_no {f m n : Int} (h : n < f ∨ f + m ≤ n) : atR f m n = -1 := by rw [atR, if_neg (by omega)]

/-- What may stand behind the byte c. -/
def nx (may c : Int) : Int :=
  if may = 1 then (if 117 ≤ c ∧ c ≤ 122 then 0 else -1)
  else if may = 2 then (if 117 ≤ c ∧ c ≤ 122 then 3 else -1)
  else if may = 3 then (if 49 ≤ c ∧ c ≤ 57 then 0 else -1)
  else if may = 4 then (if 48 ≤ c ∧ c ≤ 57 then 0 else -1)
  else if c = 33 ∨ c = 126 then 1
  else if c = 63 then 2
  else if c = 60 ∨ c = 62 then 4
  else if c = 46 ∨ c = 59 ∨ (97 ≤ c ∧ c ≤ 102) ∨ (65 ≤ c ∧ c ≤ 70) then 0
  else -1

theorem nx_range (may c : Int) : -1 ≤ nx may c ∧ nx may c ≤ 4 := by
  unfold nx
  repeat' split
  all_goals omega

set_option maxHeartbeats 1000000 in
theorem next_1y (n : Int) (w : World) (h0 : 0 ≤ n) (h1 : n ≤ 255) (f1 : 117 ≤ n) (f2 : n ≤ 122) :
    Calls Tryd.prog 36 #[.int .i64 1, .int .u8 n] w fun e w' => e = .returned (.int .i64 0) ∧ w' = w := by
  have e1 := (atI_flag h0 h1).trans (atR_yes (by omega) (by omega))
  go_enter Tryd.func36, Tryd.ntmps36
  go_wp2_with (go_at_call 25; refine (at_n _ _ _ h0 h1 (by decide)).mono ?_; rintro e w2 ⟨rfl, rfl⟩)
  go_ret
  exact ⟨rfl, rfl⟩
set_option maxHeartbeats 1000000 in
theorem next_1n (n : Int) (w : World) (h0 : 0 ≤ n) (h1 : n ≤ 255) (f1 : n < 117 ∨ 123 ≤ n) :
    Calls Tryd.prog 36 #[.int .i64 1, .int .u8 n] w fun e w' => e = .returned (.int .i64 (-1)) ∧ w' = w := by
  have e1 := (atI_flag h0 h1).trans (atR_no (by omega))
  go_enter Tryd.func36, Tryd.ntmps36
  go_wp2_with (go_at_call 25; refine (at_n _ _ _ h0 h1 (by decide)).mono ?_; rintro e w2 ⟨rfl, rfl⟩)
  go_ret
  exact ⟨rfl, rfl⟩
set_option maxHeartbeats 1000000 in
theorem next_2y (n : Int) (w : World) (h0 : 0 ≤ n) (h1 : n ≤ 255) (f1 : 117 ≤ n) (f2 : n ≤ 122) :
    Calls Tryd.prog 36 #[.int .i64 2, .int .u8 n] w fun e w' => e = .returned (.int .i64 3) ∧ w' = w := by
  have e1 := (atI_flag h0 h1).trans (atR_yes (by omega) (by omega))
  go_enter Tryd.func36, Tryd.ntmps36
  go_wp2_with (go_at_call 25; refine (at_n _ _ _ h0 h1 (by decide)).mono ?_; rintro e w2 ⟨rfl, rfl⟩)
  go_ret
  exact ⟨rfl, rfl⟩
set_option maxHeartbeats 1000000 in
theorem next_2n (n : Int) (w : World) (h0 : 0 ≤ n) (h1 : n ≤ 255) (f1 : n < 117 ∨ 123 ≤ n) :
    Calls Tryd.prog 36 #[.int .i64 2, .int .u8 n] w fun e w' => e = .returned (.int .i64 (-1)) ∧ w' = w := by
  have e1 := (atI_flag h0 h1).trans (atR_no (by omega))
  go_enter Tryd.func36, Tryd.ntmps36
  go_wp2_with (go_at_call 25; refine (at_n _ _ _ h0 h1 (by decide)).mono ?_; rintro e w2 ⟨rfl, rfl⟩)
  go_ret
  exact ⟨rfl, rfl⟩
set_option maxHeartbeats 1000000 in
theorem next_3y (n : Int) (w : World) (h0 : 0 ≤ n) (h1 : n ≤ 255) (f1 : 49 ≤ n) (f2 : n ≤ 57) :
    Calls Tryd.prog 36 #[.int .i64 3, .int .u8 n] w fun e w' => e = .returned (.int .i64 0) ∧ w' = w := by
  go_enter Tryd.func36, Tryd.ntmps36
  go_wp2_with (go_at_call 25; refine (at_n _ _ _ h0 h1 (by decide)).mono ?_; rintro e w2 ⟨rfl, rfl⟩)
  go_ret
  exact ⟨rfl, rfl⟩
set_option maxHeartbeats 1000000 in
theorem next_3a (n : Int) (w : World) (h0 : 0 ≤ n) (h1 : n ≤ 255) (f1 : n < 49) :
    Calls Tryd.prog 36 #[.int .i64 3, .int .u8 n] w fun e w' => e = .returned (.int .i64 (-1)) ∧ w' = w := by
  go_enter Tryd.func36, Tryd.ntmps36
  go_wp2_with (go_at_call 25; refine (at_n _ _ _ h0 h1 (by decide)).mono ?_; rintro e w2 ⟨rfl, rfl⟩)
  go_ret
  exact ⟨rfl, rfl⟩
set_option maxHeartbeats 1000000 in
theorem next_3b (n : Int) (w : World) (h0 : 0 ≤ n) (h1 : n ≤ 255) (f1 : 57 < n) :
    Calls Tryd.prog 36 #[.int .i64 3, .int .u8 n] w fun e w' => e = .returned (.int .i64 (-1)) ∧ w' = w := by
  have f2 : 49 ≤ n := by omega
  go_enter Tryd.func36, Tryd.ntmps36
  go_wp2_with (go_at_call 25; refine (at_n _ _ _ h0 h1 (by decide)).mono ?_; rintro e w2 ⟨rfl, rfl⟩)
  go_ret
  exact ⟨rfl, rfl⟩
set_option maxHeartbeats 1000000 in
theorem next_4y (n : Int) (w : World) (h0 : 0 ≤ n) (h1 : n ≤ 255) (f1 : 48 ≤ n) (f2 : n ≤ 57) :
    Calls Tryd.prog 36 #[.int .i64 4, .int .u8 n] w fun e w' => e = .returned (.int .i64 0) ∧ w' = w := by
  go_enter Tryd.func36, Tryd.ntmps36
  go_wp2_with (go_at_call 25; refine (at_n _ _ _ h0 h1 (by decide)).mono ?_; rintro e w2 ⟨rfl, rfl⟩)
  go_ret
  exact ⟨rfl, rfl⟩
set_option maxHeartbeats 1000000 in
theorem next_4a (n : Int) (w : World) (h0 : 0 ≤ n) (h1 : n ≤ 255) (f1 : n < 48) :
    Calls Tryd.prog 36 #[.int .i64 4, .int .u8 n] w fun e w' => e = .returned (.int .i64 (-1)) ∧ w' = w := by
  go_enter Tryd.func36, Tryd.ntmps36
  go_wp2_with (go_at_call 25; refine (at_n _ _ _ h0 h1 (by decide)).mono ?_; rintro e w2 ⟨rfl, rfl⟩)
  go_ret
  exact ⟨rfl, rfl⟩
set_option maxHeartbeats 1000000 in
theorem next_4b (n : Int) (w : World) (h0 : 0 ≤ n) (h1 : n ≤ 255) (f1 : 57 < n) :
    Calls Tryd.prog 36 #[.int .i64 4, .int .u8 n] w fun e w' => e = .returned (.int .i64 (-1)) ∧ w' = w := by
  have f2 : 48 ≤ n := by omega
  go_enter Tryd.func36, Tryd.ntmps36
  go_wp2_with (go_at_call 25; refine (at_n _ _ _ h0 h1 (by decide)).mono ?_; rintro e w2 ⟨rfl, rfl⟩)
  go_ret
  exact ⟨rfl, rfl⟩
set_option maxHeartbeats 1000000 in
theorem next_0_33 (n : Int) (w : World) (h0 : 0 ≤ n) (h1 : n ≤ 255) (f1 : n = 33) :
    Calls Tryd.prog 36 #[.int .i64 0, .int .u8 n] w fun e w' => e = .returned (.int .i64 1) ∧ w' = w := by
  subst f1
  go_enter Tryd.func36, Tryd.ntmps36
  go_wp2_with (go_at_call 25; refine (at_n _ _ _ h0 h1 (by decide)).mono ?_; rintro e w2 ⟨rfl, rfl⟩)
  go_ret
  exact ⟨rfl, rfl⟩
set_option maxHeartbeats 1000000 in
theorem next_0_126 (n : Int) (w : World) (h0 : 0 ≤ n) (h1 : n ≤ 255) (f1 : n = 126) :
    Calls Tryd.prog 36 #[.int .i64 0, .int .u8 n] w fun e w' => e = .returned (.int .i64 1) ∧ w' = w := by
  subst f1
  go_enter Tryd.func36, Tryd.ntmps36
  go_wp2_with (go_at_call 25; refine (at_n _ _ _ h0 h1 (by decide)).mono ?_; rintro e w2 ⟨rfl, rfl⟩)
  go_ret
  exact ⟨rfl, rfl⟩
set_option maxHeartbeats 1000000 in
theorem next_0_63 (n : Int) (w : World) (h0 : 0 ≤ n) (h1 : n ≤ 255) (f1 : n = 63) :
    Calls Tryd.prog 36 #[.int .i64 0, .int .u8 n] w fun e w' => e = .returned (.int .i64 2) ∧ w' = w := by
  subst f1
  go_enter Tryd.func36, Tryd.ntmps36
  go_wp2_with (go_at_call 25; refine (at_n _ _ _ h0 h1 (by decide)).mono ?_; rintro e w2 ⟨rfl, rfl⟩)
  go_ret
  exact ⟨rfl, rfl⟩
set_option maxHeartbeats 1000000 in
theorem next_0_60 (n : Int) (w : World) (h0 : 0 ≤ n) (h1 : n ≤ 255) (f1 : n = 60) :
    Calls Tryd.prog 36 #[.int .i64 0, .int .u8 n] w fun e w' => e = .returned (.int .i64 4) ∧ w' = w := by
  subst f1
  go_enter Tryd.func36, Tryd.ntmps36
  go_wp2_with (go_at_call 25; refine (at_n _ _ _ h0 h1 (by decide)).mono ?_; rintro e w2 ⟨rfl, rfl⟩)
  go_ret
  exact ⟨rfl, rfl⟩
set_option maxHeartbeats 1000000 in
theorem next_0_62 (n : Int) (w : World) (h0 : 0 ≤ n) (h1 : n ≤ 255) (f1 : n = 62) :
    Calls Tryd.prog 36 #[.int .i64 0, .int .u8 n] w fun e w' => e = .returned (.int .i64 4) ∧ w' = w := by
  subst f1
  go_enter Tryd.func36, Tryd.ntmps36
  go_wp2_with (go_at_call 25; refine (at_n _ _ _ h0 h1 (by decide)).mono ?_; rintro e w2 ⟨rfl, rfl⟩)
  go_ret
  exact ⟨rfl, rfl⟩
set_option maxHeartbeats 1000000 in
theorem next_0_46 (n : Int) (w : World) (h0 : 0 ≤ n) (h1 : n ≤ 255) (f1 : n = 46) :
    Calls Tryd.prog 36 #[.int .i64 0, .int .u8 n] w fun e w' => e = .returned (.int .i64 0) ∧ w' = w := by
  subst f1
  go_enter Tryd.func36, Tryd.ntmps36
  go_wp2_with (go_at_call 25; refine (at_n _ _ _ h0 h1 (by decide)).mono ?_; rintro e w2 ⟨rfl, rfl⟩)
  go_ret
  exact ⟨rfl, rfl⟩
set_option maxHeartbeats 1000000 in
theorem next_0_59 (n : Int) (w : World) (h0 : 0 ≤ n) (h1 : n ≤ 255) (f1 : n = 59) :
    Calls Tryd.prog 36 #[.int .i64 0, .int .u8 n] w fun e w' => e = .returned (.int .i64 0) ∧ w' = w := by
  subst f1
  go_enter Tryd.func36, Tryd.ntmps36
  go_wp2_with (go_at_call 25; refine (at_n _ _ _ h0 h1 (by decide)).mono ?_; rintro e w2 ⟨rfl, rfl⟩)
  go_ret
  exact ⟨rfl, rfl⟩
set_option maxHeartbeats 1000000 in
theorem next_0l (n : Int) (w : World) (h0 : 0 ≤ n) (h1 : n ≤ 255) (f1 : 97 ≤ n) (f2 : n ≤ 102) :
    Calls Tryd.prog 36 #[.int .i64 0, .int .u8 n] w fun e w' => e = .returned (.int .i64 0) ∧ w' = w := by
  have b33 : (n == 33) = false := by simp; omega
  have b126 : (n == 126) = false := by simp; omega
  have b63 : (n == 63) = false := by simp; omega
  have b60 : (n == 60) = false := by simp; omega
  have b62 : (n == 62) = false := by simp; omega
  have b46 : (n == 46) = false := by simp; omega
  have b59 : (n == 59) = false := by simp; omega
  have e2 := (atI_lock h0 h1).trans (atR_yes (by omega) (by omega))
  go_enter Tryd.func36, Tryd.ntmps36
  go_wp2_with (go_at_call 25; refine (at_n _ _ _ h0 h1 (by decide)).mono ?_; rintro e w2 ⟨rfl, rfl⟩)
  go_ret
  exact ⟨rfl, rfl⟩
set_option maxHeartbeats 1000000 in
theorem next_0g (n : Int) (w : World) (h0 : 0 ≤ n) (h1 : n ≤ 255) (f1 : 65 ≤ n) (f2 : n ≤ 70) :
    Calls Tryd.prog 36 #[.int .i64 0, .int .u8 n] w fun e w' => e = .returned (.int .i64 0) ∧ w' = w := by
  have b33 : (n == 33) = false := by simp; omega
  have b126 : (n == 126) = false := by simp; omega
  have b63 : (n == 63) = false := by simp; omega
  have b60 : (n == 60) = false := by simp; omega
  have b62 : (n == 62) = false := by simp; omega
  have b46 : (n == 46) = false := by simp; omega
  have b59 : (n == 59) = false := by simp; omega
  have e2 := (atI_lock h0 h1).trans (atR_no (by omega))
  have e3 := (atI_give h0 h1).trans (atR_yes (by omega) (by omega))
  go_enter Tryd.func36, Tryd.ntmps36
  go_wp2_with (go_at_call 25; refine (at_n _ _ _ h0 h1 (by decide)).mono ?_; rintro e w2 ⟨rfl, rfl⟩)
  go_ret
  exact ⟨rfl, rfl⟩
set_option maxHeartbeats 1000000 in
theorem next_0n (n : Int) (w : World) (h0 : 0 ≤ n) (h1 : n ≤ 255) (g1 : n ≠ 33) (g2 : n ≠ 126) (g3 : n ≠ 63) (g4 : n ≠ 60) (g5 : n ≠ 62) (g6 : n ≠ 46) (g7 : n ≠ 59) (g8 : n < 97 ∨ 103 ≤ n) (g9 : n < 65 ∨ 71 ≤ n) :
    Calls Tryd.prog 36 #[.int .i64 0, .int .u8 n] w fun e w' => e = .returned (.int .i64 (-1)) ∧ w' = w := by
  have b33 : (n == 33) = false := by simp; omega
  have b126 : (n == 126) = false := by simp; omega
  have b63 : (n == 63) = false := by simp; omega
  have b60 : (n == 60) = false := by simp; omega
  have b62 : (n == 62) = false := by simp; omega
  have b46 : (n == 46) = false := by simp; omega
  have b59 : (n == 59) = false := by simp; omega
  have e2 := (atI_lock h0 h1).trans (atR_no (by omega))
  have e3 := (atI_give h0 h1).trans (atR_no (by omega))
  go_enter Tryd.func36, Tryd.ntmps36
  go_wp2_with (go_at_call 25; refine (at_n _ _ _ h0 h1 (by decide)).mono ?_; rintro e w2 ⟨rfl, rfl⟩)
  go_ret
  exact ⟨rfl, rfl⟩

theorem next_any (may n : Int) (w : World) (hm0 : 0 ≤ may) (hm4 : may ≤ 4) (h0 : 0 ≤ n) (h1 : n ≤ 255) :
    Calls Tryd.prog 36 #[.int .i64 may, .int .u8 n] w fun e w' => e = .returned (.int .i64 (nx may n)) ∧ w' = w := by
  have hc : may = 1 ∨ may = 2 ∨ may = 3 ∨ may = 4 ∨ may = 0 := by omega
  unfold nx
  rcases hc with rfl | rfl | rfl | rfl | rfl
  · rw [if_pos rfl]
    split
    · exact next_1y n w h0 h1 (by omega) (by omega)
    · exact next_1n n w h0 h1 (by omega)
  · rw [if_neg (by decide), if_pos rfl]
    split
    · exact next_2y n w h0 h1 (by omega) (by omega)
    · exact next_2n n w h0 h1 (by omega)
  · rw [if_neg (by decide), if_neg (by decide), if_pos rfl]
    split
    · exact next_3y n w h0 h1 (by omega) (by omega)
    · by_cases h : n < 49
      · exact next_3a n w h0 h1 h
      · exact next_3b n w h0 h1 (by omega)
  · rw [if_neg (by decide), if_neg (by decide), if_neg (by decide), if_pos rfl]
    split
    · exact next_4y n w h0 h1 (by omega) (by omega)
    · by_cases h : n < 48
      · exact next_4a n w h0 h1 h
      · exact next_4b n w h0 h1 (by omega)
  · rw [if_neg (by decide), if_neg (by decide), if_neg (by decide), if_neg (by decide)]
    split
    · rename_i h
      rcases h with h | h
      · exact next_0_33 n w h0 h1 h
      · exact next_0_126 n w h0 h1 h
    split
    · rename_i h; exact next_0_63 n w h0 h1 h
    split
    · rename_i h
      rcases h with h | h
      · exact next_0_60 n w h0 h1 h
      · exact next_0_62 n w h0 h1 h
    split
    · rename_i h
      rcases h with h | h | h | h
      · exact next_0_46 n w h0 h1 h
      · exact next_0_59 n w h0 h1 h
      · exact next_0l n w h0 h1 h.1 h.2
      · exact next_0g n w h0 h1 h.1 h.2
    · exact next_0n n w h0 h1 (by omega) (by omega) (by omega) (by omega) (by omega) (by omega) (by omega) (by omega) (by omega)
end Go.Proofs.YtdfndcbakcmgiaaDoor
namespace Go.Proofs.YtdfndcbakcmgiaaDoor
open Go.RowKit

/-- The place at which a text is no program, or -1. -/
def badLoop (s : ByteArray) (may : Int) (k : Nat) : Int :=
  if k < s.size then (if nx may (byteI s k) < 0 then (k : Int) else badLoop s (nx may (byteI s k)) (k + 1))
  else if may ≠ 0 then (s.size : Int) else -1
termination_by s.size - k

set_option maxHeartbeats 1000000 in
theorem bad_any (s : ByteArray) (w : World) (hs : s.size ≤ maxLen) :
    Calls Tryd.prog 21 #[.string s] w fun e w' => e = .returned (.int .i64 (badLoop s 0 0)) ∧ w' = w := by
  unfold maxLen at hs
  go_enter Tryd.func21, Tryd.ntmps21
  go_wp2
  go_loop [3, 4] (fun m i => ∃ (k : Nat) (may : Int), k ≤ s.size ∧ i = .int .i64 k ∧ m = .int .i64 may ∧ 0 ≤ may ∧ may ≤ 4 ∧ Hid (badLoop s 0 0 = badLoop s may k)) (fun _ i => s.size - (intOf i).toNat)
  case atStart => exact ⟨0, 0, Nat.zero_le _, rfl, rfl, by omega, by omega, rfl⟩
  case round =>
    obtain ⟨k, may, hk, rfl, rfl, hm0, hm4, hh⟩ := hrel
    by_cases hlt : k < s.size
    · have hb : Hid (badLoop s 0 0 = if nx may (byteI s k) < 0 then (k : Int) else badLoop s (nx may (byteI s k)) (k + 1)) := by rw [Hid, hh.out, badLoop, if_pos hlt]
      clear hh
      have hr := nx_range may (byteI s k)
      have hlo := byteI_lo s k
      have hhi := byteI_hi s k
      have hbk := byteI_in hlt
      have hnx := fun w => next_any may (byteI s k) w hm0 hm4 hlo hhi
      generalize nx may (byteI s k) = m' at hb hr hnx
      by_cases hneg : m' < 0
      · go_wp2_with (go_at_call 36; refine (hnx _).mono ?_; rintro e w2 ⟨rfl, rfl⟩)
        go_ret
        exact ⟨ret_int (by rw [hb.out, if_pos hneg]), rfl⟩
      · go_wp2_with (go_at_call 36; refine (hnx _).mono ?_; rintro e w2 ⟨rfl, rfl⟩)
        go_round
        case rel => exact ⟨k + 1, m', by omega, by go_num, rfl, by omega, by omega, by rw [Hid, hb.out, if_neg (by omega)]⟩
        case measure => simp [intOf]; omega
    · have hb : Hid (badLoop s 0 0 = if may ≠ 0 then (s.size : Int) else -1) := by rw [Hid, hh.out, badLoop, if_neg hlt]
      clear hh
      by_cases h0 : may = 0
      · have h0' : (may != 0) = false := by simpa using h0
        go_wp2
        go_ret
        exact ⟨ret_int (by rw [hb.out, if_neg (by omega)]), rfl⟩
      · have h0' : (may != 0) = true := by simpa using h0
        go_wp2
        go_ret
        exact ⟨ret_int (by rw [hb.out, if_pos h0]), rfl⟩

theorem below_app {B : Nat} {w wr w2 : World} {v : Value} {e : TypeId} {size n : Nat} {xs : List Value} (hB : Below B w wr) (hsz : B ≤ wr.heap.size) (o : Obj) (hg : (wr.alloc o).grownBy w2 v.ownBlock) (hown : wr.ownsRow B e size v n xs) : Below B w w2 :=
  (hB.alloc hsz o).grown hg (by simp; omega) (fun k hk => (hown.lt k hk).1)

/-- The texts of the threads. -/
def thLoop (s : ByteArray) (frm k : Nat) (done : List ByteArray) : List ByteArray :=
  if k < s.size then
    (if byteI s k = 59 then thLoop s (k + 1) (k + 1) (done ++ [s.extract frm k]) else thLoop s frm (k + 1) done)
  else done ++ [s.extract frm s.size]
termination_by s.size - k

theorem infoString : (Tryd.prog.info? 9).map (fun i => (i.zero, i.size, i.bytes)) = some (some (.string ⟨#[]⟩), 1, 16) := by kernel_rfl

set_option maxHeartbeats 1000000 in
theorem threads_any (s : ByteArray) (w : World) (hs : s.size ≤ 160) :
    Calls Tryd.prog 22 #[.string s] w fun e w' => ∃ v, e = .returned v ∧ Below w.heap.size w w' ∧
      w'.ownsRow w.heap.size 9 1 v (thLoop s 0 0 []).length ((thLoop s 0 0 []).map Value.string) ∧ v.ownBlock ≠ none := by
  go_enter Tryd.func22, Tryd.ntmps22
  go_wp2
  go_loopw [3, 4, 5] (fun v f i wr => ∃ (k frm : Nat) (done : List ByteArray), k ≤ s.size ∧ frm ≤ k ∧ done.length ≤ k ∧ i = .int .i64 k ∧ f = .int .i64 frm ∧ Hid (thLoop s 0 0 [] = thLoop s frm k done) ∧ Below w.heap.size w wr ∧
      wr.ownsRow w.heap.size 9 1 v done.length (done.map Value.string)) (fun _ _ i _ => s.size - (intOf i).toNat)
  case atStart => exact ⟨0, 0, [], Nat.zero_le _, Nat.zero_le _, Nat.zero_le _, rfl, rfl, rfl, Below.refl _ _, World.ownsRow_nil _ _ _ _⟩
  case round =>
    obtain ⟨k, frm, done, hk, hf, hd, rfl, rfl, hh, hB, hown⟩ := hrel
    by_cases hlt : k < s.size
    · have hbk := byteI_in hlt
      by_cases h59 : byteI s k = 59
      · have hh2 : Hid (thLoop s 0 0 [] = thLoop s (k + 1) (k + 1) (done ++ [s.extract frm k])) := by rw [Hid, hh.out, thLoop, if_pos hlt, if_pos h59]
        clear hh
        go_wp2_with (at_builtin; go_loud (refine wpList_appendLit _ rfl _ _ 35 rfl w.heap.size 9 (.string ⟨#[]⟩) 1 16 Tryd.underlying35 infoString rfl (by decide) _ _ _ rfl hown _ _ rfl rfl rfl ?c2 ?c3 ?c4 ?c5 ?_))
        case c2 => rfl
        case c3 => omega
        case c4 => omega
        case c5 => exact hB.size
        intro v' w2 ho hg hfr hn
        have hB2 := below_app hB hB.size _ hg hown
        clear hg hfr hn hB hown
        go_wp2
        go_roundw
        case rel => exact ⟨k + 1, k + 1, done ++ [s.extract frm k], by omega, by omega, by simp; omega, by go_num, by go_num, hh2, hB2, by simpa using ho⟩
        case measure => simp [intOf]; omega
      · have hh2 : Hid (thLoop s 0 0 [] = thLoop s frm (k + 1) done) := by rw [Hid, hh.out, thLoop, if_pos hlt, if_neg h59]
        have h59' : (byteI s k == 59) = false := by simpa using h59
        clear hh
        go_wp2
        go_roundw
        case rel => exact ⟨k + 1, frm, done, by omega, by omega, by omega, by go_num, rfl, hh2, hB, hown⟩
        case measure => simp [intOf]; omega
    · have hh2 : Hid (thLoop s 0 0 [] = done ++ [s.extract frm s.size]) := by rw [Hid, hh.out, thLoop, if_neg hlt]
      clear hh
      go_wp2_with (at_builtin; go_loud (refine wpList_appendLit _ rfl _ _ 35 rfl w.heap.size 9 (.string ⟨#[]⟩) 1 16 Tryd.underlying35 infoString rfl (by decide) _ _ _ rfl hown _ _ rfl rfl rfl ?c2 ?c3 ?c4 ?c5 ?_))
      case c2 => rfl
      case c3 => omega
      case c4 => omega
      case c5 => exact hB.size
      intro v' w2 ho hg hfr hn
      have hB2 := below_app hB hB.size _ hg hown
      clear hg hfr hB hown
      go_wp2
      go_ret
      refine ⟨_, rfl, hB2, ?_, hn⟩
      rw [hh2.out]
      simpa using ho

/-- How many bytes an instruction has that begins with this one. -/
def wid (c : Int) : Nat := if c = 33 ∨ c = 126 ∨ c = 60 ∨ c = 62 then 2 else if c = 63 then 3 else 1
theorem wid_range (c : Int) : 1 ≤ wid c ∧ wid c ≤ 3 := by unfold wid; split <;> (try split) <;> omega
/-- The end of the instruction that begins at a place. -/
def stEnd (s : ByteArray) (i : Nat) : Nat := if s.size < i + wid (byteI s i) then s.size else i + wid (byteI s i)
/-- The instructions of a thread. -/
def stLoop (s : ByteArray) (i : Nat) (done : List ByteArray) : List ByteArray :=
  if _h : i < s.size then stLoop s (stEnd s i) (done ++ [s.extract i (stEnd s i)]) else done
termination_by s.size - i
decreasing_by
  have := wid_range (byteI s i)
  unfold stEnd
  split <;> omega

set_option maxHeartbeats 2000000 in
theorem steps_any (s : ByteArray) (w : World) (hs : s.size ≤ 160) :
    Calls Tryd.prog 23 #[.string s] w fun e w' => ∃ v, e = .returned v ∧ Below w.heap.size w w' ∧
      w'.ownsRow w.heap.size 9 1 v (stLoop s 0 []).length ((stLoop s 0 []).map Value.string) ∧ (stLoop s 0 []).length ≤ 160 := by
  go_enter Tryd.func23, Tryd.ntmps23
  go_wp2
  go_loopw [3, 4] (fun v i wr => ∃ (k : Nat) (done : List ByteArray), k ≤ s.size ∧ done.length ≤ k ∧ i = .int .i64 k ∧ Hid (stLoop s 0 [] = stLoop s k done) ∧ Below w.heap.size w wr ∧
      wr.ownsRow w.heap.size 9 1 v done.length (done.map Value.string)) (fun _ i _ => s.size - (intOf i).toNat)
  case atStart => exact ⟨0, [], Nat.zero_le _, Nat.zero_le _, rfl, rfl, Below.refl _ _, World.ownsRow_nil _ _ _ _⟩
  case round =>
    obtain ⟨k, done, hk, hd, rfl, hh, hB, hown⟩ := hrel
    by_cases hlt : k < s.size
    · have hbk := byteI_in hlt
      have hh2 : Hid (stLoop s 0 [] = stLoop s (stEnd s k) (done ++ [s.extract k (stEnd s k)])) := by rw [Hid, hh.out, stLoop, dif_pos hlt]
      clear hh
      have hcs : byteI s k = 33 ∨ byteI s k = 126 ∨ byteI s k = 60 ∨ byteI s k = 62 ∨ byteI s k = 63 ∨ (byteI s k ≠ 33 ∧ byteI s k ≠ 126 ∧ byteI s k ≠ 60 ∧ byteI s k ≠ 62 ∧ byteI s k ≠ 63) := by omega
      rcases hcs with hc | hc | hc | hc | hc | hc
      · have hw : stEnd s k = if s.size < k + 2 then s.size else k + 2 := by rw [stEnd, hc]; rfl
        by_cases hend : s.size < k + 2
        · rw [if_pos hend] at hw
          rw [hw] at hh2
          clear hw
          go_wp2_with (at_builtin; go_loud (refine wpList_appendLit _ rfl _ _ 35 rfl w.heap.size 9 (.string ⟨#[]⟩) 1 16 Tryd.underlying35 infoString rfl (by decide) _ _ _ rfl hown _ _ rfl rfl rfl ?c2 ?c3 ?c4 ?c5 ?_))
          case c2 => rfl
          case c3 => omega
          case c4 => omega
          case c5 => exact hB.size
          intro v' w2 ho hg hfr hn
          have hB2 := below_app hB hB.size _ hg hown
          clear hg hfr hn hB hown
          go_wp2
          go_roundw
          case rel => exact ⟨s.size, done ++ [s.extract k (s.size)], by omega, by simp; omega, by go_num, hh2, hB2, by simpa using ho⟩
          case measure => simp [intOf]; omega
        · rw [if_neg hend] at hw
          rw [hw] at hh2
          clear hw
          go_wp2_with (at_builtin; go_loud (refine wpList_appendLit _ rfl _ _ 35 rfl w.heap.size 9 (.string ⟨#[]⟩) 1 16 Tryd.underlying35 infoString rfl (by decide) _ _ _ rfl hown _ _ rfl rfl rfl ?c2 ?c3 ?c4 ?c5 ?_))
          case c2 => rfl
          case c3 => omega
          case c4 => omega
          case c5 => exact hB.size
          intro v' w2 ho hg hfr hn
          have hB2 := below_app hB hB.size _ hg hown
          clear hg hfr hn hB hown
          go_wp2
          go_roundw
          case rel => exact ⟨k + 2, done ++ [s.extract k (k + 2)], by omega, by simp; omega, by go_num, hh2, hB2, by simpa using ho⟩
          case measure => simp [intOf]; omega
      · have hw : stEnd s k = if s.size < k + 2 then s.size else k + 2 := by rw [stEnd, hc]; rfl
        by_cases hend : s.size < k + 2
        · rw [if_pos hend] at hw
          rw [hw] at hh2
          clear hw
          go_wp2_with (at_builtin; go_loud (refine wpList_appendLit _ rfl _ _ 35 rfl w.heap.size 9 (.string ⟨#[]⟩) 1 16 Tryd.underlying35 infoString rfl (by decide) _ _ _ rfl hown _ _ rfl rfl rfl ?c2 ?c3 ?c4 ?c5 ?_))
          case c2 => rfl
          case c3 => omega
          case c4 => omega
          case c5 => exact hB.size
          intro v' w2 ho hg hfr hn
          have hB2 := below_app hB hB.size _ hg hown
          clear hg hfr hn hB hown
          go_wp2
          go_roundw
          case rel => exact ⟨s.size, done ++ [s.extract k (s.size)], by omega, by simp; omega, by go_num, hh2, hB2, by simpa using ho⟩
          case measure => simp [intOf]; omega
        · rw [if_neg hend] at hw
          rw [hw] at hh2
          clear hw
          go_wp2_with (at_builtin; go_loud (refine wpList_appendLit _ rfl _ _ 35 rfl w.heap.size 9 (.string ⟨#[]⟩) 1 16 Tryd.underlying35 infoString rfl (by decide) _ _ _ rfl hown _ _ rfl rfl rfl ?c2 ?c3 ?c4 ?c5 ?_))
          case c2 => rfl
          case c3 => omega
          case c4 => omega
          case c5 => exact hB.size
          intro v' w2 ho hg hfr hn
          have hB2 := below_app hB hB.size _ hg hown
          clear hg hfr hn hB hown
          go_wp2
          go_roundw
          case rel => exact ⟨k + 2, done ++ [s.extract k (k + 2)], by omega, by simp; omega, by go_num, hh2, hB2, by simpa using ho⟩
          case measure => simp [intOf]; omega
      · have hw : stEnd s k = if s.size < k + 2 then s.size else k + 2 := by rw [stEnd, hc]; rfl
        by_cases hend : s.size < k + 2
        · rw [if_pos hend] at hw
          rw [hw] at hh2
          clear hw
          go_wp2_with (at_builtin; go_loud (refine wpList_appendLit _ rfl _ _ 35 rfl w.heap.size 9 (.string ⟨#[]⟩) 1 16 Tryd.underlying35 infoString rfl (by decide) _ _ _ rfl hown _ _ rfl rfl rfl ?c2 ?c3 ?c4 ?c5 ?_))
          case c2 => rfl
          case c3 => omega
          case c4 => omega
          case c5 => exact hB.size
          intro v' w2 ho hg hfr hn
          have hB2 := below_app hB hB.size _ hg hown
          clear hg hfr hn hB hown
          go_wp2
          go_roundw
          case rel => exact ⟨s.size, done ++ [s.extract k (s.size)], by omega, by simp; omega, by go_num, hh2, hB2, by simpa using ho⟩
          case measure => simp [intOf]; omega
        · rw [if_neg hend] at hw
          rw [hw] at hh2
          clear hw
          go_wp2_with (at_builtin; go_loud (refine wpList_appendLit _ rfl _ _ 35 rfl w.heap.size 9 (.string ⟨#[]⟩) 1 16 Tryd.underlying35 infoString rfl (by decide) _ _ _ rfl hown _ _ rfl rfl rfl ?c2 ?c3 ?c4 ?c5 ?_))
          case c2 => rfl
          case c3 => omega
          case c4 => omega
          case c5 => exact hB.size
          intro v' w2 ho hg hfr hn
          have hB2 := below_app hB hB.size _ hg hown
          clear hg hfr hn hB hown
          go_wp2
          go_roundw
          case rel => exact ⟨k + 2, done ++ [s.extract k (k + 2)], by omega, by simp; omega, by go_num, hh2, hB2, by simpa using ho⟩
          case measure => simp [intOf]; omega
      · have hw : stEnd s k = if s.size < k + 2 then s.size else k + 2 := by rw [stEnd, hc]; rfl
        by_cases hend : s.size < k + 2
        · rw [if_pos hend] at hw
          rw [hw] at hh2
          clear hw
          go_wp2_with (at_builtin; go_loud (refine wpList_appendLit _ rfl _ _ 35 rfl w.heap.size 9 (.string ⟨#[]⟩) 1 16 Tryd.underlying35 infoString rfl (by decide) _ _ _ rfl hown _ _ rfl rfl rfl ?c2 ?c3 ?c4 ?c5 ?_))
          case c2 => rfl
          case c3 => omega
          case c4 => omega
          case c5 => exact hB.size
          intro v' w2 ho hg hfr hn
          have hB2 := below_app hB hB.size _ hg hown
          clear hg hfr hn hB hown
          go_wp2
          go_roundw
          case rel => exact ⟨s.size, done ++ [s.extract k (s.size)], by omega, by simp; omega, by go_num, hh2, hB2, by simpa using ho⟩
          case measure => simp [intOf]; omega
        · rw [if_neg hend] at hw
          rw [hw] at hh2
          clear hw
          go_wp2_with (at_builtin; go_loud (refine wpList_appendLit _ rfl _ _ 35 rfl w.heap.size 9 (.string ⟨#[]⟩) 1 16 Tryd.underlying35 infoString rfl (by decide) _ _ _ rfl hown _ _ rfl rfl rfl ?c2 ?c3 ?c4 ?c5 ?_))
          case c2 => rfl
          case c3 => omega
          case c4 => omega
          case c5 => exact hB.size
          intro v' w2 ho hg hfr hn
          have hB2 := below_app hB hB.size _ hg hown
          clear hg hfr hn hB hown
          go_wp2
          go_roundw
          case rel => exact ⟨k + 2, done ++ [s.extract k (k + 2)], by omega, by simp; omega, by go_num, hh2, hB2, by simpa using ho⟩
          case measure => simp [intOf]; omega
      · have hw : stEnd s k = if s.size < k + 3 then s.size else k + 3 := by rw [stEnd, hc]; rfl
        by_cases hend : s.size < k + 3
        · rw [if_pos hend] at hw
          rw [hw] at hh2
          clear hw
          go_wp2_with (at_builtin; go_loud (refine wpList_appendLit _ rfl _ _ 35 rfl w.heap.size 9 (.string ⟨#[]⟩) 1 16 Tryd.underlying35 infoString rfl (by decide) _ _ _ rfl hown _ _ rfl rfl rfl ?c2 ?c3 ?c4 ?c5 ?_))
          case c2 => rfl
          case c3 => omega
          case c4 => omega
          case c5 => exact hB.size
          intro v' w2 ho hg hfr hn
          have hB2 := below_app hB hB.size _ hg hown
          clear hg hfr hn hB hown
          go_wp2
          go_roundw
          case rel => exact ⟨s.size, done ++ [s.extract k (s.size)], by omega, by simp; omega, by go_num, hh2, hB2, by simpa using ho⟩
          case measure => simp [intOf]; omega
        · rw [if_neg hend] at hw
          rw [hw] at hh2
          clear hw
          go_wp2_with (at_builtin; go_loud (refine wpList_appendLit _ rfl _ _ 35 rfl w.heap.size 9 (.string ⟨#[]⟩) 1 16 Tryd.underlying35 infoString rfl (by decide) _ _ _ rfl hown _ _ rfl rfl rfl ?c2 ?c3 ?c4 ?c5 ?_))
          case c2 => rfl
          case c3 => omega
          case c4 => omega
          case c5 => exact hB.size
          intro v' w2 ho hg hfr hn
          have hB2 := below_app hB hB.size _ hg hown
          clear hg hfr hn hB hown
          go_wp2
          go_roundw
          case rel => exact ⟨k + 3, done ++ [s.extract k (k + 3)], by omega, by simp; omega, by go_num, hh2, hB2, by simpa using ho⟩
          case measure => simp [intOf]; omega
      · obtain ⟨g1, g2, g3, g4, g5⟩ := hc
        have b1 : (byteI s k == 33) = false := by simpa using g1
        have b2 : (byteI s k == 126) = false := by simpa using g2
        have b3 : (byteI s k == 60) = false := by simpa using g3
        have b4 : (byteI s k == 62) = false := by simpa using g4
        have b5 : (byteI s k == 63) = false := by simpa using g5
        have hw : stEnd s k = k + 1 := by simp only [stEnd, wid, g1, g2, g3, g4, g5]; simp; omega
        rw [hw] at hh2
        clear hw
        go_wp2_with (at_builtin; go_loud (refine wpList_appendLit _ rfl _ _ 35 rfl w.heap.size 9 (.string ⟨#[]⟩) 1 16 Tryd.underlying35 infoString rfl (by decide) _ _ _ rfl hown _ _ rfl rfl rfl ?c2 ?c3 ?c4 ?c5 ?_))
        case c2 => rfl
        case c3 => omega
        case c4 => omega
        case c5 => exact hB.size
        intro v' w2 ho hg hfr hn
        have hB2 := below_app hB hB.size _ hg hown
        clear hg hfr hn hB hown
        go_wp2
        go_roundw
        case rel => exact ⟨k + 1, done ++ [s.extract k (k + 1)], by omega, by simp; omega, by go_num, hh2, hB2, by simpa using ho⟩
        case measure => simp [intOf]; omega
    · go_wp2
      go_ret
      have hh2 : stLoop s 0 [] = done := by rw [hh.out, stLoop, dif_neg hlt]
      refine ⟨_, rfl, hB, ?_, ?_⟩
      · rw [hh2]; exact hown
      · rw [hh2]; omega
end Go.Proofs.YtdfndcbakcmgiaaDoor
namespace Go.Proofs.YtdfndcbakcmgiaaDoor
open Go.RowKit

theorem thLoop_len (s : ByteArray) : ∀ (n frm k : Nat) (done : List ByteArray), s.size - k = n → (thLoop s frm k done).length ≤ done.length + 1 + (s.size - k) := by
  intro n
  induction n with
  | zero => intro frm k done h; rw [thLoop, if_neg (by omega)]; simp
  | succ n ih =>
    intro frm k done h
    rw [thLoop, if_pos (by omega)]
    split
    · have := ih (k + 1) (k + 1) (done ++ [s.extract frm k]) (by omega)
      simp at this; omega
    · have := ih frm (k + 1) done (by omega)
      omega
theorem thLoop_size (s : ByteArray) : ∀ (n frm k : Nat) (done : List ByteArray), s.size - k = n → (∀ x ∈ done, x.size ≤ s.size) → ∀ x ∈ thLoop s frm k done, x.size ≤ s.size := by
  intro n
  induction n with
  | zero =>
    intro frm k done h hd x hx
    rw [thLoop, if_neg (by omega)] at hx
    rcases List.mem_append.1 hx with hx | hx
    · exact hd x hx
    · simp at hx; subst hx; rw [ByteArray.size_extract]; omega
  | succ n ih =>
    intro frm k done h hd x hx
    rw [thLoop, if_pos (by omega)] at hx
    split at hx
    · refine ih (k + 1) (k + 1) _ (by omega) ?_ x hx
      intro y hy
      rcases List.mem_append.1 hy with hy | hy
      · exact hd y hy
      · simp at hy; subst hy; rw [ByteArray.size_extract]; omega
    · exact ih frm (k + 1) done (by omega) hd x hx

/-- Strings in a slice, as they are read. -/
def StrsIn (w : World) (B : Nat) (g : Nat) (l : List ByteArray) : Prop := B ≤ g ∧ g < w.heap.size ∧ ∀ j x, l[j]? = some x → w.cell? ⟨g, j, none⟩ = some (.string x)
theorem StrsIn.below {w w' : World} {B g : Nat} {l : List ByteArray} (h : StrsIn w B g l) (hb : Below w.heap.size w w') : StrsIn w' B g l :=
  ⟨h.1, Nat.lt_of_lt_of_le h.2.1 hb.size, fun j x hx => by rw [hb.cell (p := ⟨g, j, none⟩) h.2.1]; exact h.2.2 j x hx⟩
theorem strs_of_own {w : World} {B : Nat} {v : Value} {l : List ByteArray} (h : w.ownsRow B 9 1 v l.length (l.map Value.string)) (hn : v.ownBlock ≠ none) : ∃ g cap, v = .slice (some ⟨g, 0, none⟩) l.length cap ∧ StrsIn w B g l := by
  obtain ⟨g, cap, hv, hB, hlt⟩ := RowD.at.form (r := ⟨9, 1, v, l.length, l.map Value.string⟩) ⟨h, hn⟩
  have hv' : v = .slice (some ⟨g, 0, none⟩) l.length cap := hv
  refine ⟨g, cap, hv', hB, hlt, fun j x hx => ?_⟩
  rw [hv'] at h
  have hj : j < l.length := (List.getElem?_eq_some_iff.1 hx).1
  rw [h.cellAt j (by omega)]
  simp [hx]

theorem threads_read (s : ByteArray) (w : World) (hs : s.size ≤ 160) :
    Calls Tryd.prog 22 #[.string s] w fun e w' => ∃ g cap, e = .returned (.slice (some ⟨g, 0, none⟩) (thLoop s 0 0 []).length cap) ∧ Below w.heap.size w w' ∧ StrsIn w' w.heap.size g (thLoop s 0 0 []) := by
  refine (threads_any s w hs).mono ?_
  rintro e w1 ⟨v, rfl, hb, ho, hn⟩
  obtain ⟨g, cap, rfl, h⟩ := strs_of_own ho hn
  exact ⟨g, cap, rfl, hb, h⟩
/-- Of 'steps' the length alone. -/
theorem steps_len (s : ByteArray) (w : World) (hs : s.size ≤ 160) :
    Calls Tryd.prog 23 #[.string s] w fun e w' => ∃ a cap, e = .returned (.slice a (stLoop s 0 []).length cap) ∧ Below w.heap.size w w' ∧ (stLoop s 0 []).length ≤ 160 := by
  refine (steps_any s w hs).mono ?_
  rintro e w1 ⟨v, rfl, hb, ho, hn⟩
  rcases ho.2 with ⟨rfl, h0⟩ | ⟨g, cap, cur, rfl, _⟩
  · exact ⟨none, 0, by rw [h0], hb, hn⟩
  · exact ⟨_, cap, rfl, hb, hn⟩

def ckExtra (l : List ByteArray) (t : Nat) : Int :=
  if h : t < l.length then (if 5 ≤ t ∨ 12 < (stLoop l[t] 0 []).length then (t : Int) else ckExtra l (t + 1)) else -1
termination_by l.length - t
def ckStray (s : ByteArray) (n : Nat) (i : Nat) : Int :=
  if i < s.size then (if (byteI s (i - 1) = 60 ∨ byteI s (i - 1) = 62) ∧ (n : Int) ≤ (byteI s i - 48) % 256 then (i : Int) else ckStray s n (i + 1)) else -1
termination_by s.size - i
def ckEnd (s : ByteArray) (l : List ByteArray) : Int × Int :=
  if ckExtra l 0 ≠ -1 then (3, ckExtra l 0)
  else if ckStray s l.length 1 ≠ -1 then (4, ckStray s l.length 1)
  else (0, 0)
def ckP (s : ByteArray) : Int × Int :=
  if 160 < s.size then (1, 0)
  else if 0 ≤ badLoop s 0 0 then (2, badLoop s 0 0)
  else ckEnd s (thLoop s 0 0 [])

theorem ckExtra_pos (l : List ByteArray) : ∀ (n t : Nat), l.length - t = n → -1 ≤ ckExtra l t := by
  intro n
  induction n with
  | zero => intro t h; rw [ckExtra, dif_neg (by omega)]; omega
  | succ n ih =>
    intro t h
    rw [ckExtra, dif_pos (by omega)]
    split
    · omega
    · exact ih (t + 1) (by omega)

set_option maxHeartbeats 2000000 in
theorem refCheck_any (s : ByteArray) (w : World) :
    Calls Tryd.prog 8 #[.string s] w fun e w' => e = .returned (.tuple #[.int .i64 (ckP s).1, .int .i64 (ckP s).2]) ∧ Below w.heap.size w w' := by
  by_cases h160 : 160 < s.size
  · have hr : ckP s = (1, 0) := by rw [ckP, if_pos h160]
    rw [hr]; clear hr
    go_enter Tryd.func8, Tryd.ntmps8
    go_wp2
    go_ret2
    exact ⟨rfl, Below.refl _ _⟩
  have hs : s.size ≤ 160 := by omega
  have hmx : s.size ≤ maxLen := by unfold maxLen; omega
  have hbad := fun w => bad_any s w hmx
  by_cases hb0 : 0 ≤ badLoop s 0 0
  · have hr : ckP s = (2, badLoop s 0 0) := by rw [ckP, if_neg h160, if_pos hb0]
    rw [hr]; clear hr
    go_enter Tryd.func8, Tryd.ntmps8
    go_wp2_with (go_at_call 21; refine (hbad _).mono ?_; rintro e w2 ⟨rfl, rfl⟩)
    go_ret2
    exact ⟨rfl, Below.refl _ _⟩
  have hth := fun w => threads_read s w hs
  have hlen := thLoop_len s _ 0 0 [] rfl
  have hsz := thLoop_size s _ 0 0 [] rfl (by simp)
  have hck : ckP s = ckEnd s (thLoop s 0 0 []) := by
    rw [ckP, if_neg h160, if_neg hb0]
  rw [hck]; clear hck
  generalize thLoop s 0 0 [] = l at *
  simp only [List.length_nil] at hlen
  go_enter Tryd.func8, Tryd.ntmps8
  go_wp2_with (first | (go_at_call 21; refine (hbad _).mono ?_; rintro e w2 ⟨rfl, hw⟩; have hw2 := hw.symm; clear hw; subst hw2) | (go_at_call 22; refine (hth _).mono ?_; rintro e w1 ⟨g, cap, rfl, hB, hst⟩))
  clear hbad hth
  go_loopw [6] (fun i wr => ∃ t : Nat, t ≤ l.length ∧ i = .int .i64 t ∧ Hid (ckExtra l 0 = ckExtra l t) ∧ Below w.heap.size w wr ∧ StrsIn wr w.heap.size g l) (fun i _ => l.length - (intOf i).toNat)
  case atStart => exact ⟨0, Nat.zero_le _, rfl, rfl, hB, hst⟩
  case round =>
    obtain ⟨t, ht, rfl, hh, hBr, hsr⟩ := hrel
    clear hB hst
    by_cases hlt : t < l.length
    · have hh2 : Hid (ckExtra l 0 = if 5 ≤ t ∨ 12 < (stLoop l[t] 0 []).length then (t : Int) else ckExtra l (t + 1)) := by rw [Hid, hh.out, ckExtra, dif_pos hlt]
      clear hh
      have hc := hsr.2.2 t l[t] (by simp [hlt])
      have hstp := fun w => steps_len l[t] w (by have := hsz l[t] (by simp); omega)
      generalize stLoop l[t] 0 [] = r at hh2 hstp
      generalize l[t] = x at hc hstp
      by_cases hex : 5 ≤ t ∨ 12 < r.length
      · rcases hex with hex | hex
        · have h2 : ¬ (l.length ≤ t) := by omega
          go_wp2_with (go_at_call 23; refine (hstp _).mono ?_; rintro e w2 ⟨a, cap2, rfl, hB2, hr160⟩)
          go_ret2
          refine ⟨?_, hBr.trans (hB2.mono hBr.size)⟩
          have hx : ckExtra l 0 = (t : Int) := by rw [hh2.out, if_pos (.inl hex)]
          rw [ckEnd, hx, if_pos (by omega)]
          rfl
        · by_cases h5 : 5 ≤ t
          all_goals
            go_wp2_with (go_at_call 23; refine (hstp _).mono ?_; rintro e w2 ⟨a, cap2, rfl, hB2, hr160⟩)
            go_ret2
            refine ⟨?_, hBr.trans (hB2.mono hBr.size)⟩
            have hx : ckExtra l 0 = (t : Int) := by rw [hh2.out, if_pos (.inr hex)]
            rw [ckEnd, hx, if_pos (by omega)]
            rfl
      · have h5 : ¬ 5 ≤ t := by omega
        have h12 : ¬ 12 < r.length := by omega
        go_wp2_with (go_at_call 23; refine (hstp _).mono ?_; rintro e w2 ⟨a, cap2, rfl, hB2, hr160⟩)
        go_roundw
        case rel => exact ⟨t + 1, by omega, by go_num, by rw [Hid, hh2.out, if_neg (by omega)], hBr.trans (hB2.mono hBr.size), hsr.below hB2⟩
        case measure => simp [intOf]; omega
    · have hx : ckExtra l 0 = -1 := by rw [hh.out, ckExtra, dif_neg hlt]
      have hce : ckEnd s l = if ckStray s l.length 1 ≠ -1 then (4, ckStray s l.length 1) else (0, 0) := by rw [ckEnd, if_neg (by omega)]
      have HCE : Hid (ckEnd s l = if ckStray s l.length 1 ≠ -1 then (4, ckStray s l.length 1) else (0, 0)) := hce
      clear hh hce hx
      go_wp2
      go_loop [8] (fun i => ∃ k : Nat, 1 ≤ k ∧ k ≤ s.size + 1 ∧ i = .int .i64 k ∧ Hid (ckStray s l.length 1 = ckStray s l.length k)) (fun i => s.size + 1 - (intOf i).toNat)
      case atStart => exact ⟨1, by omega, by omega, rfl, rfl⟩
      case round =>
        obtain ⟨k, hk1, hk, rfl, hh⟩ := hrel
        by_cases hks : k < s.size
        · have hh2 : Hid (ckStray s l.length 1 = if (byteI s (k - 1) = 60 ∨ byteI s (k - 1) = 62) ∧ (l.length : Int) ≤ (byteI s k - 48) % 256 then (k : Int) else ckStray s l.length (k + 1)) := by rw [Hid, hh.out, ckStray, if_pos hks]
          clear hh
          obtain ⟨j, rfl⟩ : ∃ j, k = j + 1 := ⟨k - 1, by omega⟩
          have hj : j < s.size := by omega
          have hbj := byteI_in hj
          have hbk := byteI_in hks
          have hlo := byteI_lo s (j + 1)
          have hhi := byteI_hi s (j + 1)
          simp only [Nat.add_sub_cancel] at hh2
          go_wp2
          · have hx : ckStray s l.length 1 = ((j + 1 : Nat) : Int) := by rw [hh2.out, if_pos (by omega)]
            have hy : ckEnd s l = (4, ((j + 1 : Nat) : Int)) := by rw [HCE.out, hx, if_pos (by omega)]
            rw [hy]
            go_ret2
            exact ⟨rfl, hBr⟩
          · go_round
            case rel => exact ⟨j + 1 + 1, by omega, by omega, by go_num, by rw [Hid, hh2.out, if_neg (by omega)]⟩
            case measure => simp [intOf]; omega
          · have hx : ckStray s l.length 1 = ((j + 1 : Nat) : Int) := by rw [hh2.out, if_pos (by omega)]
            have hy : ckEnd s l = (4, ((j + 1 : Nat) : Int)) := by rw [HCE.out, hx, if_pos (by omega)]
            rw [hy]
            go_ret2
            exact ⟨rfl, hBr⟩
          · go_round
            case rel => exact ⟨j + 1 + 1, by omega, by omega, by go_num, by rw [Hid, hh2.out, if_neg (by omega)]⟩
            case measure => simp [intOf]; omega
          · go_round
            case rel => exact ⟨j + 1 + 1, by omega, by omega, by go_num, by rw [Hid, hh2.out, if_neg (by omega)]⟩
            case measure => simp [intOf]; omega
        · have hx : ckStray s l.length 1 = -1 := by rw [hh.out, ckStray, if_neg hks]
          have hy : ckEnd s l = (0, 0) := by rw [HCE.out, hx, if_neg (by omega)]
          have HY : Hid (ckEnd s l = (0, 0)) := hy
          clear hh hx hy HCE
          go_wp2
          go_ret2
          exact ⟨by rw [HY.out]; rfl, hBr⟩
end Go.Proofs.YtdfndcbakcmgiaaDoor
