import Derived.Test.YtfdbnilopfnifaaRows
import Derived.WalkKit
import Derived.WalkSpells
import Derived.WalkLawsBesides
namespace Go.Proofs.Ytfdbnilopfnifaa
open Go.RowKit

def atFrom (s : ByteArray) (c : UInt8) (k : Nat) : Int :=
  if h : k < s.size then (if s[k] = c then (k : Int) else atFrom s c (k + 1)) else -1
termination_by s.size - k

theorem ret_int {k : IntKind} {a b : Int} (h : a = b) : Ending.returned (.int k a) = .returned (.int k b) := by rw [h]
theorem u8_eq {a b : UInt8} : a = b ↔ (a.toNat : Int) = (b.toNat : Int) := by
  rw [← UInt8.toNat_inj]; omega

set_option maxHeartbeats 400000 in
theorem at_any (c : UInt8) (s : ByteArray) (w : World) (hs : s.size ≤ maxLen) :
    Calls Try.prog 77 #[.int .u8 c.toNat, .string s] w fun e w' => e = .returned (.int .i64 (atFrom s c 0)) ∧ w' = w := by
  unfold maxLen at hs
  go_enter Try.func77, Try.ntmps77
  go_wp2
  go_loop [5] (fun i => ∃ k : Nat, k ≤ s.size ∧ i = .int .i64 k ∧ Hid (atFrom s c 0 = atFrom s c k)) (fun i => s.size - (intOf i).toNat)
  case atStart => exact ⟨0, Nat.zero_le _, rfl, rfl⟩
  case round =>
    obtain ⟨k, hk, rfl, hh⟩ := hrel
    by_cases hlt : k < s.size
    · by_cases he : (s[k].toNat : Int) = (c.toNat : Int)
      · have hb : ((s[k].toNat : Int) == (c.toNat : Int)) = true := by simpa using he
        go_wp2
        go_ret
        exact ⟨ret_int (by rw [hh.out, atFrom, dif_pos hlt, if_pos (u8_eq.2 he)]), rfl⟩
      · have hb : ((s[k].toNat : Int) == (c.toNat : Int)) = false := by simpa using he
        go_wp2
        go_round
        case rel => exact ⟨k + 1, by omega, by go_num, by rw [Hid, hh.out, atFrom, dif_pos hlt, if_neg (fun h => he (u8_eq.1 h))]⟩
        case measure => simp [intOf]; omega
    · go_wp2
      go_ret
      exact ⟨ret_int (by rw [hh.out, atFrom, dif_neg hlt]), rfl⟩
end Go.Proofs.Ytfdbnilopfnifaa
