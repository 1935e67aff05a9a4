import Derived.Test.YtdfndcbakcmgiabDoorT18
import Derived.Test.YtdfndcbakcmgiabDoorW
namespace Go.Proofs.YtdfndcbakcmgiabDoor
open Go.RowKit

theorem digS_ext (ms : List Nat) (i t : Nat) (h : ms[i]? = some t) : (digS ms).extract i (i + 1) = digS [t] := by
  apply ByteArray.ext
  simp only [digS, ByteArray.data_extract]
  apply Array.ext'
  simp
  rw [List.take_one, List.head?_drop, List.getElem?_map, h]
  rfl
theorem digS_append (a b : List Nat) : digS a ++ digS b = digS (a ++ b) := by
  apply ByteArray.ext
  simp [digS]
/-- The threads of some events. -/
def thsAt (ms : List Nat) (l : List Nat) : List Nat := l.map fun i => ms[i]?.getD 0
def intN (l : List Nat) : List Int := l.map fun (n : Nat) => (n : Int)

/-- A number that is picked lies within its bounds. -/
theorem pick_any (c : Int) (hc0 : -9223372036854775808 ≤ c) (hc1 : c ≤ 9223372036854775807) (n : Nat) (hn : 0 < n) (hn1 : n ≤ 1000) (w : World) :
    Calls Tryd.prog 6 #[.int .i64 c, .int .i64 n] w fun e w' => (∃ r : Nat, r < n ∧ e = .returned (.int .i64 (r : Int))) ∧ w' = w := by
  have n0 : (0 : Int) < (n : Int) := by omega
  by_cases h : c < 0
  · have hw : IntKind.i64.wrap (c + 1) = c + 1 := by simp [IntKind.wrap, IntKind.signed, IntKind.bits]; omega
    have hw2 : IntKind.i64.wrap (-(c + 1)) = -(c + 1) := by simp [IntKind.wrap, IntKind.signed, IntKind.bits]; omega
    have hr0 := Int.emod_nonneg (-(c + 1)) (show (n : Int) ≠ 0 by omega)
    have hr1 := Int.emod_lt_of_pos (-(c + 1)) n0
    have hnn : (0 : Int) ≤ -(c + 1) := by omega
    have ht : Int.tmod (-(c + 1)) n = (-(c + 1)) % n := Int.tmod_eq_emod_of_nonneg hnn
    go_enter Tryd.func6, Tryd.ntmps6
    go_wp2
    go_ret
    exact ⟨⟨((-(c + 1)) % n).toNat, by omega, ret_int (by omega)⟩, rfl⟩
  · have hr0 := Int.emod_nonneg c (show (n : Int) ≠ 0 by omega)
    have hr1 := Int.emod_lt_of_pos c n0
    have hnn : (0 : Int) ≤ c := by omega
    have ht : Int.tmod c n = c % n := Int.tmod_eq_emod_of_nonneg hnn
    go_enter Tryd.func6, Tryd.ntmps6
    go_wp2
    go_ret
    exact ⟨⟨(c % n).toNat, by omega, ret_int (by omega)⟩, rfl⟩
end Go.Proofs.YtdfndcbakcmgiabDoor
namespace Go.Proofs.YtdfndcbakcmgiabDoor
open Go.RowKit

theorem digS_at (ms : List Nat) (i t : Nat) (h : ms[i]? = some t) (ht : t ≤ 100) (hi : i < (digS ms).size) : ((digS ms)[i].toNat : Int) = 48 + t := by
  rw [byteI_in hi]
  obtain ⟨hi', rfl⟩ := List.getElem?_eq_some_iff.1 h
  rw [← byteI_in hi]
  show (((ms.map fun t => UInt8.ofNat (48 + t)).toArray[i]'(by simpa using hi')).toNat : Int) = 48 + ms[i]
  simp only [List.getElem_toArray, List.getElem_map]
  rw [UInt8.toNat_ofNat']; omega

end Go.Proofs.YtdfndcbakcmgiabDoor
