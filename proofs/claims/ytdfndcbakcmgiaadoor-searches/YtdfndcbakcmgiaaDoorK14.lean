import Derived.Test.YtdfndcbakcmgiaaDoorK13
namespace Go.Proofs.YtdfndcbakcmgiaaDoor
open Go.RowKit

attribute [local go_sem] guardT
set_option maxRecDepth 100000 in
set_option maxHeartbeats 1000000 in
theorem refSearch_any (s : ByteArray) (b : Int) (w : World) :
    Calls Tryd.prog 5 #[.string s, .int .i64 b] w fun e w' => e = .returned (.tuple #[.string (seaV s b).1, .int .i64 (seaV s b).2.1, .int .i64 (seaV s b).2.2]) ∧ Below w.heap.size w w' := by
  by_cases h : (ckP s).1 = 0
  · by_cases hb : b < 0 ∨ 400 < b
    · rw [seaV, if_neg (by simpa using h), if_pos hb]
      have hC := refCheck_any s w
      rw [h] at hC
      generalize (ckP s).2 = q at *
      by_cases h1 : b < 0
      · go_enter Tryd.func5, Tryd.ntmps5
        go_wp2_with (first | (go_at_call 8; refine hC.mono ?_; rintro e w1 ⟨rfl, hb1⟩))
        go_ret3
        exact ⟨rfl, hb1⟩
      · have h2 : 400 < b := by omega
        go_enter Tryd.func5, Tryd.ntmps5
        go_wp2_with (first | (go_at_call 8; refine hC.mono ?_; rintro e w1 ⟨rfl, hb1⟩))
        go_ret3
        exact ⟨rfl, hb1⟩
    · rw [seaV, if_neg (by simpa using h), if_neg hb]
      obtain ⟨n, rfl⟩ : ∃ n : Nat, b = n := ⟨b.toNat, by omega⟩
      exact refSearch_go s h (ckP_zero s h).1 n (by omega) w
  · rw [seaV, if_pos (by simpa using h)]
    have hC := refCheck_any s w
    generalize (ckP s).1 = a at *
    generalize (ckP s).2 = q at *
    have ha : (a != 0) = true := by simpa using h
    go_enter Tryd.func5, Tryd.ntmps5
    go_wp2_with (first | (go_at_call 8; refine hC.mono ?_; rintro e w1 ⟨rfl, hb1⟩))
    go_ret3
    exact ⟨rfl, hb1⟩

set_option maxRecDepth 100000 in
set_option maxHeartbeats 1000000 in
theorem Searches_walk (s : ByteArray) (b : Int) (w : World) :
    Calls Tryd.prog 3 #[.string s, .int .i64 b] w fun e w' => e = .returned (.bool true) ∧ Below w.heap.size w w' := by
  have h1 := fun w => Search_any s b w
  have h2 := fun w => refSearch_any s b w
  generalize seaV s b = r at *
  go_enter Tryd.func3, Tryd.ntmps3
  go_wp2_with (first
    | (go_at_call 4; refine (h1 _).mono ?_; rintro e w1 ⟨rfl, hb1⟩)
    | (go_at_call 5; refine (h2 _).mono ?_; rintro e w2 ⟨rfl, hb2⟩))
  go_ret
  exact ⟨by simp, hb1.trans (hb2.mono hb1.size)⟩
end Go.Proofs.YtdfndcbakcmgiaaDoor
