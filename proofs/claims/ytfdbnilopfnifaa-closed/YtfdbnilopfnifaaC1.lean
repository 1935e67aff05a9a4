import Derived.Test.YtfdbnilopfnifaaB4
namespace Go.Proofs.Ytfdbnilopfnifaa
open Go.RowKit

/-- Where the number c stands in the row f, f + 1, .. of m numbers. -/
def atR (f m c : Int) : Int := if f ≤ c ∧ c < f + m then c - f else -1

theorem atFrom_range (s : ByteArray) (c : UInt8) (f : Nat) (hf : ∀ j (h : j < s.size), s[j].toNat = f + j) :
    ∀ (n k : Nat), s.size - k = n → (k : Int) ≤ s.size → atFrom s c k = if (f + k : Int) ≤ c.toNat ∧ (c.toNat : Int) < f + s.size then (c.toNat : Int) - f else -1 := by
  intro n
  induction n with
  | zero =>
    intro k hk hle
    rw [atFrom, dif_neg (by omega), if_neg (by omega)]
  | succ n ih =>
    intro k hk hle
    have hlt : k < s.size := by omega
    rw [atFrom, dif_pos hlt]
    by_cases he : s[k] = c
    · rw [if_pos he]
      have := hf k hlt
      rw [he] at this
      rw [if_pos (by omega)]
      omega
    · rw [if_neg he, ih (k + 1) (by omega) (by omega)]
      have hne : s[k].toNat ≠ c.toNat := fun h => he (UInt8.toNat_inj.1 h)
      rw [hf k hlt] at hne
      by_cases hc : (f + k : Int) ≤ c.toNat ∧ (c.toNat : Int) < f + s.size
      · rw [if_pos hc, if_pos (by omega)]
      · rw [if_neg hc, if_neg (by omega)]

def lockS : ByteArray := ⟨#[97, 98, 99, 100, 101, 102]⟩
def giveS : ByteArray := ⟨#[65, 66, 67, 68, 69, 70]⟩
def flagS : ByteArray := ⟨#[117, 118, 119, 120, 121, 122]⟩
def digitS : ByteArray := ⟨#[48, 49, 50, 51, 52, 53, 54, 55, 56, 57]⟩
theorem lockS_row : ∀ j (h : j < lockS.size), lockS[j].toNat = 97 + j := by decide
theorem giveS_row : ∀ j (h : j < giveS.size), giveS[j].toNat = 65 + j := by decide
theorem flagS_row : ∀ j (h : j < flagS.size), flagS[j].toNat = 117 + j := by decide
theorem digitS_row : ∀ j (h : j < digitS.size), digitS[j].toNat = 48 + j := by decide

/-- 'at' of a number in a constant string. -/
def atI (s : ByteArray) (n : Int) : Int := atFrom s (UInt8.ofNat n.toNat) 0
theorem at_n (s : ByteArray) (n : Int) (w : World) (h0 : 0 ≤ n) (h1 : n ≤ 255) (hs : s.size ≤ 100) :
    Calls Try.prog 77 #[.int .u8 n, .string s] w fun e w' => e = .returned (.int .i64 (atI s n)) ∧ w' = w := by
  have hc : ((UInt8.ofNat n.toNat).toNat : Int) = n := by
    rw [UInt8.toNat_ofNat']
    omega
  have := at_any (UInt8.ofNat n.toNat) s w (by unfold maxLen; omega)
  rwa [hc] at this
theorem atI_row (s : ByteArray) (n : Int) (f : Nat) (hf : ∀ j (h : j < s.size), s[j].toNat = f + j) (h0 : 0 ≤ n) (h1 : n ≤ 255) : atI s n = atR f s.size n := by
  have hc : ((UInt8.ofNat n.toNat).toNat : Int) = n := by
    rw [UInt8.toNat_ofNat']
    omega
  rw [atI, atFrom_range s _ f hf _ 0 rfl (by omega), hc, atR]
  simp
theorem atI_lock {n : Int} (h0 : 0 ≤ n) (h1 : n ≤ 255) : atI ⟨#[97, 98, 99, 100, 101, 102]⟩ n = atR 97 6 n := atI_row lockS n 97 lockS_row h0 h1
theorem atI_give {n : Int} (h0 : 0 ≤ n) (h1 : n ≤ 255) : atI ⟨#[65, 66, 67, 68, 69, 70]⟩ n = atR 65 6 n := atI_row giveS n 65 giveS_row h0 h1
theorem atI_flag {n : Int} (h0 : 0 ≤ n) (h1 : n ≤ 255) : atI ⟨#[117, 118, 119, 120, 121, 122]⟩ n = atR 117 6 n := atI_row flagS n 117 flagS_row h0 h1
theorem atI_digit {n : Int} (h0 : 0 ≤ n) (h1 : n ≤ 255) : atI ⟨#[48, 49, 50, 51, 52, 53, 54, 55, 56, 57]⟩ n = atR 48 10 n := atI_row digitS n 48 digitS_row h0 h1
theorem atR_yes {f m n : Int} (h1 : f ≤ n) (h2 : n < f + m) : atR f m n = n - f := by rw [atR, if_pos ⟨h1, h2⟩]
theorem atR_no {f m n : Int} (h : n < f ∨ f + m ≤ n) : atR f m n = -1 := by rw [atR, if_neg (by omega)]

/-- What may stand behind the byte c. -/
def nx (may c : Int) : Int :=
  if may = 1 then (if 117 ≤ c ∧ c ≤ 122 then 0 else -1)
  else if may = 2 then (if 117 ≤ c ∧ c ≤ 122 then 3 else -1)
  else if may = 3 then (if 49 ≤ c ∧ c ≤ 57 then 0 else -1)
  else if may = 4 then (if 48 ≤ c ∧ c ≤ 57 then 0 else -1)
  else if c = 33 ∨ c = 126 then 1
  else if c = 63 then 2
  else if c = 60 ∨ c = 62 then 4
  else if c = 46 ∨ c = 59 ∨ (97 ≤ c ∧ c ≤ 102) ∨ (65 ≤ c ∧ c ≤ 70) then 0
  else -1

theorem nx_range (may c : Int) : -1 ≤ nx may c ∧ nx may c ≤ 4 := by
  unfold nx
  repeat' split
  all_goals omega

set_option maxHeartbeats 1000000 in
theorem next_1y (n : Int) (w : World) (h0 : 0 ≤ n) (h1 : n ≤ 255) (f1 : 117 ≤ n) (f2 : n ≤ 122) :
    Calls Try.prog 75 #[.int .i64 1, .int .u8 n] w fun e w' => e = .returned (.int .i64 0) ∧ w' = w := by
  have e1 := (atI_flag h0 h1).trans (atR_yes (by omega) (by omega))
  go_enter Try.func75, Try.ntmps75
  go_wp2_with (go_at_call 77; refine (at_n _ _ _ h0 h1 (by decide)).mono ?_; rintro e w2 ⟨rfl, rfl⟩)
  go_ret
  exact ⟨rfl, rfl⟩
set_option maxHeartbeats 1000000 in
theorem next_1n (n : Int) (w : World) (h0 : 0 ≤ n) (h1 : n ≤ 255) (f1 : n < 117 ∨ 123 ≤ n) :
    Calls Try.prog 75 #[.int .i64 1, .int .u8 n] w fun e w' => e = .returned (.int .i64 (-1)) ∧ w' = w := by
  have e1 := (atI_flag h0 h1).trans (atR_no (by omega))
  go_enter Try.func75, Try.ntmps75
  go_wp2_with (go_at_call 77; refine (at_n _ _ _ h0 h1 (by decide)).mono ?_; rintro e w2 ⟨rfl, rfl⟩)
  go_ret
  exact ⟨rfl, rfl⟩
set_option maxHeartbeats 1000000 in
theorem next_2y (n : Int) (w : World) (h0 : 0 ≤ n) (h1 : n ≤ 255) (f1 : 117 ≤ n) (f2 : n ≤ 122) :
    Calls Try.prog 75 #[.int .i64 2, .int .u8 n] w fun e w' => e = .returned (.int .i64 3) ∧ w' = w := by
  have e1 := (atI_flag h0 h1).trans (atR_yes (by omega) (by omega))
  go_enter Try.func75, Try.ntmps75
  go_wp2_with (go_at_call 77; refine (at_n _ _ _ h0 h1 (by decide)).mono ?_; rintro e w2 ⟨rfl, rfl⟩)
  go_ret
  exact ⟨rfl, rfl⟩
set_option maxHeartbeats 1000000 in
theorem next_2n (n : Int) (w : World) (h0 : 0 ≤ n) (h1 : n ≤ 255) (f1 : n < 117 ∨ 123 ≤ n) :
    Calls Try.prog 75 #[.int .i64 2, .int .u8 n] w fun e w' => e = .returned (.int .i64 (-1)) ∧ w' = w := by
  have e1 := (atI_flag h0 h1).trans (atR_no (by omega))
  go_enter Try.func75, Try.ntmps75
  go_wp2_with (go_at_call 77; refine (at_n _ _ _ h0 h1 (by decide)).mono ?_; rintro e w2 ⟨rfl, rfl⟩)
  go_ret
  exact ⟨rfl, rfl⟩
set_option maxHeartbeats 1000000 in
theorem next_3y (n : Int) (w : World) (h0 : 0 ≤ n) (h1 : n ≤ 255) (f1 : 49 ≤ n) (f2 : n ≤ 57) :
    Calls Try.prog 75 #[.int .i64 3, .int .u8 n] w fun e w' => e = .returned (.int .i64 0) ∧ w' = w := by
  go_enter Try.func75, Try.ntmps75
  go_wp2_with (go_at_call 77; refine (at_n _ _ _ h0 h1 (by decide)).mono ?_; rintro e w2 ⟨rfl, rfl⟩)
  go_ret
  exact ⟨rfl, rfl⟩
set_option maxHeartbeats 1000000 in
theorem next_3a (n : Int) (w : World) (h0 : 0 ≤ n) (h1 : n ≤ 255) (f1 : n < 49) :
    Calls Try.prog 75 #[.int .i64 3, .int .u8 n] w fun e w' => e = .returned (.int .i64 (-1)) ∧ w' = w := by
  go_enter Try.func75, Try.ntmps75
  go_wp2_with (go_at_call 77; refine (at_n _ _ _ h0 h1 (by decide)).mono ?_; rintro e w2 ⟨rfl, rfl⟩)
  go_ret
  exact ⟨rfl, rfl⟩
set_option maxHeartbeats 1000000 in
theorem next_3b (n : Int) (w : World) (h0 : 0 ≤ n) (h1 : n ≤ 255) (f1 : 57 < n) :
    Calls Try.prog 75 #[.int .i64 3, .int .u8 n] w fun e w' => e = .returned (.int .i64 (-1)) ∧ w' = w := by
  have f2 : 49 ≤ n := by omega
  go_enter Try.func75, Try.ntmps75
  go_wp2_with (go_at_call 77; refine (at_n _ _ _ h0 h1 (by decide)).mono ?_; rintro e w2 ⟨rfl, rfl⟩)
  go_ret
  exact ⟨rfl, rfl⟩
set_option maxHeartbeats 1000000 in
theorem next_4y (n : Int) (w : World) (h0 : 0 ≤ n) (h1 : n ≤ 255) (f1 : 48 ≤ n) (f2 : n ≤ 57) :
    Calls Try.prog 75 #[.int .i64 4, .int .u8 n] w fun e w' => e = .returned (.int .i64 0) ∧ w' = w := by
  go_enter Try.func75, Try.ntmps75
  go_wp2_with (go_at_call 77; refine (at_n _ _ _ h0 h1 (by decide)).mono ?_; rintro e w2 ⟨rfl, rfl⟩)
  go_ret
  exact ⟨rfl, rfl⟩
set_option maxHeartbeats 1000000 in
theorem next_4a (n : Int) (w : World) (h0 : 0 ≤ n) (h1 : n ≤ 255) (f1 : n < 48) :
    Calls Try.prog 75 #[.int .i64 4, .int .u8 n] w fun e w' => e = .returned (.int .i64 (-1)) ∧ w' = w := by
  go_enter Try.func75, Try.ntmps75
  go_wp2_with (go_at_call 77; refine (at_n _ _ _ h0 h1 (by decide)).mono ?_; rintro e w2 ⟨rfl, rfl⟩)
  go_ret
  exact ⟨rfl, rfl⟩
set_option maxHeartbeats 1000000 in
theorem next_4b (n : Int) (w : World) (h0 : 0 ≤ n) (h1 : n ≤ 255) (f1 : 57 < n) :
    Calls Try.prog 75 #[.int .i64 4, .int .u8 n] w fun e w' => e = .returned (.int .i64 (-1)) ∧ w' = w := by
  have f2 : 48 ≤ n := by omega
  go_enter Try.func75, Try.ntmps75
  go_wp2_with (go_at_call 77; refine (at_n _ _ _ h0 h1 (by decide)).mono ?_; rintro e w2 ⟨rfl, rfl⟩)
  go_ret
  exact ⟨rfl, rfl⟩
set_option maxHeartbeats 1000000 in
theorem next_0_33 (n : Int) (w : World) (h0 : 0 ≤ n) (h1 : n ≤ 255) (f1 : n = 33) :
    Calls Try.prog 75 #[.int .i64 0, .int .u8 n] w fun e w' => e = .returned (.int .i64 1) ∧ w' = w := by
  subst f1
  go_enter Try.func75, Try.ntmps75
  go_wp2_with (go_at_call 77; refine (at_n _ _ _ h0 h1 (by decide)).mono ?_; rintro e w2 ⟨rfl, rfl⟩)
  go_ret
  exact ⟨rfl, rfl⟩
set_option maxHeartbeats 1000000 in
theorem next_0_126 (n : Int) (w : World) (h0 : 0 ≤ n) (h1 : n ≤ 255) (f1 : n = 126) :
    Calls Try.prog 75 #[.int .i64 0, .int .u8 n] w fun e w' => e = .returned (.int .i64 1) ∧ w' = w := by
  subst f1
  go_enter Try.func75, Try.ntmps75
  go_wp2_with (go_at_call 77; refine (at_n _ _ _ h0 h1 (by decide)).mono ?_; rintro e w2 ⟨rfl, rfl⟩)
  go_ret
  exact ⟨rfl, rfl⟩
set_option maxHeartbeats 1000000 in
theorem next_0_63 (n : Int) (w : World) (h0 : 0 ≤ n) (h1 : n ≤ 255) (f1 : n = 63) :
    Calls Try.prog 75 #[.int .i64 0, .int .u8 n] w fun e w' => e = .returned (.int .i64 2) ∧ w' = w := by
  subst f1
  go_enter Try.func75, Try.ntmps75
  go_wp2_with (go_at_call 77; refine (at_n _ _ _ h0 h1 (by decide)).mono ?_; rintro e w2 ⟨rfl, rfl⟩)
  go_ret
  exact ⟨rfl, rfl⟩
set_option maxHeartbeats 1000000 in
theorem next_0_60 (n : Int) (w : World) (h0 : 0 ≤ n) (h1 : n ≤ 255) (f1 : n = 60) :
    Calls Try.prog 75 #[.int .i64 0, .int .u8 n] w fun e w' => e = .returned (.int .i64 4) ∧ w' = w := by
  subst f1
  go_enter Try.func75, Try.ntmps75
  go_wp2_with (go_at_call 77; refine (at_n _ _ _ h0 h1 (by decide)).mono ?_; rintro e w2 ⟨rfl, rfl⟩)
  go_ret
  exact ⟨rfl, rfl⟩
set_option maxHeartbeats 1000000 in
theorem next_0_62 (n : Int) (w : World) (h0 : 0 ≤ n) (h1 : n ≤ 255) (f1 : n = 62) :
    Calls Try.prog 75 #[.int .i64 0, .int .u8 n] w fun e w' => e = .returned (.int .i64 4) ∧ w' = w := by
  subst f1
  go_enter Try.func75, Try.ntmps75
  go_wp2_with (go_at_call 77; refine (at_n _ _ _ h0 h1 (by decide)).mono ?_; rintro e w2 ⟨rfl, rfl⟩)
  go_ret
  exact ⟨rfl, rfl⟩
set_option maxHeartbeats 1000000 in
theorem next_0_46 (n : Int) (w : World) (h0 : 0 ≤ n) (h1 : n ≤ 255) (f1 : n = 46) :
    Calls Try.prog 75 #[.int .i64 0, .int .u8 n] w fun e w' => e = .returned (.int .i64 0) ∧ w' = w := by
  subst f1
  go_enter Try.func75, Try.ntmps75
  go_wp2_with (go_at_call 77; refine (at_n _ _ _ h0 h1 (by decide)).mono ?_; rintro e w2 ⟨rfl, rfl⟩)
  go_ret
  exact ⟨rfl, rfl⟩
set_option maxHeartbeats 1000000 in
theorem next_0_59 (n : Int) (w : World) (h0 : 0 ≤ n) (h1 : n ≤ 255) (f1 : n = 59) :
    Calls Try.prog 75 #[.int .i64 0, .int .u8 n] w fun e w' => e = .returned (.int .i64 0) ∧ w' = w := by
  subst f1
  go_enter Try.func75, Try.ntmps75
  go_wp2_with (go_at_call 77; refine (at_n _ _ _ h0 h1 (by decide)).mono ?_; rintro e w2 ⟨rfl, rfl⟩)
  go_ret
  exact ⟨rfl, rfl⟩
set_option maxHeartbeats 1000000 in
theorem next_0l (n : Int) (w : World) (h0 : 0 ≤ n) (h1 : n ≤ 255) (f1 : 97 ≤ n) (f2 : n ≤ 102) :
    Calls Try.prog 75 #[.int .i64 0, .int .u8 n] w fun e w' => e = .returned (.int .i64 0) ∧ w' = w := by
  have b33 : (n == 33) = false := by simp; omega
  have b126 : (n == 126) = false := by simp; omega
  have b63 : (n == 63) = false := by simp; omega
  have b60 : (n == 60) = false := by simp; omega
  have b62 : (n == 62) = false := by simp; omega
  have b46 : (n == 46) = false := by simp; omega
  have b59 : (n == 59) = false := by simp; omega
  have e2 := (atI_lock h0 h1).trans (atR_yes (by omega) (by omega))
  go_enter Try.func75, Try.ntmps75
  go_wp2_with (go_at_call 77; refine (at_n _ _ _ h0 h1 (by decide)).mono ?_; rintro e w2 ⟨rfl, rfl⟩)
  go_ret
  exact ⟨rfl, rfl⟩
set_option maxHeartbeats 1000000 in
theorem next_0g (n : Int) (w : World) (h0 : 0 ≤ n) (h1 : n ≤ 255) (f1 : 65 ≤ n) (f2 : n ≤ 70) :
    Calls Try.prog 75 #[.int .i64 0, .int .u8 n] w fun e w' => e = .returned (.int .i64 0) ∧ w' = w := by
  have b33 : (n == 33) = false := by simp; omega
  have b126 : (n == 126) = false := by simp; omega
  have b63 : (n == 63) = false := by simp; omega
  have b60 : (n == 60) = false := by simp; omega
  have b62 : (n == 62) = false := by simp; omega
  have b46 : (n == 46) = false := by simp; omega
  have b59 : (n == 59) = false := by simp; omega
  have e2 := (atI_lock h0 h1).trans (atR_no (by omega))
  have e3 := (atI_give h0 h1).trans (atR_yes (by omega) (by omega))
  go_enter Try.func75, Try.ntmps75
  go_wp2_with (go_at_call 77; refine (at_n _ _ _ h0 h1 (by decide)).mono ?_; rintro e w2 ⟨rfl, rfl⟩)
  go_ret
  exact ⟨rfl, rfl⟩
set_option maxHeartbeats 1000000 in
theorem next_0n (n : Int) (w : World) (h0 : 0 ≤ n) (h1 : n ≤ 255) (g1 : n ≠ 33) (g2 : n ≠ 126) (g3 : n ≠ 63) (g4 : n ≠ 60) (g5 : n ≠ 62) (g6 : n ≠ 46) (g7 : n ≠ 59) (g8 : n < 97 ∨ 103 ≤ n) (g9 : n < 65 ∨ 71 ≤ n) :
    Calls Try.prog 75 #[.int .i64 0, .int .u8 n] w fun e w' => e = .returned (.int .i64 (-1)) ∧ w' = w := by
  have b33 : (n == 33) = false := by simp; omega
  have b126 : (n == 126) = false := by simp; omega
  have b63 : (n == 63) = false := by simp; omega
  have b60 : (n == 60) = false := by simp; omega
  have b62 : (n == 62) = false := by simp; omega
  have b46 : (n == 46) = false := by simp; omega
  have b59 : (n == 59) = false := by simp; omega
  have e2 := (atI_lock h0 h1).trans (atR_no (by omega))
  have e3 := (atI_give h0 h1).trans (atR_no (by omega))
  go_enter Try.func75, Try.ntmps75
  go_wp2_with (go_at_call 77; refine (at_n _ _ _ h0 h1 (by decide)).mono ?_; rintro e w2 ⟨rfl, rfl⟩)
  go_ret
  exact ⟨rfl, rfl⟩

theorem next_any (may n : Int) (w : World) (hm0 : 0 ≤ may) (hm4 : may ≤ 4) (h0 : 0 ≤ n) (h1 : n ≤ 255) :
    Calls Try.prog 75 #[.int .i64 may, .int .u8 n] w fun e w' => e = .returned (.int .i64 (nx may n)) ∧ w' = w := by
  have hc : may = 1 ∨ may = 2 ∨ may = 3 ∨ may = 4 ∨ may = 0 := by omega
  unfold nx
  rcases hc with rfl | rfl | rfl | rfl | rfl
  · rw [if_pos rfl]
    split
    · exact next_1y n w h0 h1 (by omega) (by omega)
    · exact next_1n n w h0 h1 (by omega)
  · rw [if_neg (by decide), if_pos rfl]
    split
    · exact next_2y n w h0 h1 (by omega) (by omega)
    · exact next_2n n w h0 h1 (by omega)
  · rw [if_neg (by decide), if_neg (by decide), if_pos rfl]
    split
    · exact next_3y n w h0 h1 (by omega) (by omega)
    · by_cases h : n < 49
      · exact next_3a n w h0 h1 h
      · exact next_3b n w h0 h1 (by omega)
  · rw [if_neg (by decide), if_neg (by decide), if_neg (by decide), if_pos rfl]
    split
    · exact next_4y n w h0 h1 (by omega) (by omega)
    · by_cases h : n < 48
      · exact next_4a n w h0 h1 h
      · exact next_4b n w h0 h1 (by omega)
  · rw [if_neg (by decide), if_neg (by decide), if_neg (by decide), if_neg (by decide)]
    split
    · rename_i h
      rcases h with h | h
      · exact next_0_33 n w h0 h1 h
      · exact next_0_126 n w h0 h1 h
    split
    · rename_i h; exact next_0_63 n w h0 h1 h
    split
    · rename_i h
      rcases h with h | h
      · exact next_0_60 n w h0 h1 h
      · exact next_0_62 n w h0 h1 h
    split
    · rename_i h
      rcases h with h | h | h | h
      · exact next_0_46 n w h0 h1 h
      · exact next_0_59 n w h0 h1 h
      · exact next_0l n w h0 h1 h.1 h.2
      · exact next_0g n w h0 h1 h.1 h.2
    · exact next_0n n w h0 h1 (by omega) (by omega) (by omega) (by omega) (by omega) (by omega) (by omega) (by omega) (by omega)
end Go.Proofs.Ytfdbnilopfnifaa
