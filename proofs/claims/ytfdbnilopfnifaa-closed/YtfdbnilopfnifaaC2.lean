import Derived.Test.YtfdbnilopfnifaaC1
namespace Go.Proofs.Ytfdbnilopfnifaa
open Go.RowKit

/-- The place at which a text is no program, or -1. -/
def badLoop (s : ByteArray) (may : Int) (k : Nat) : Int :=
  if k < s.size then (if nx may (byteI s k) < 0 then (k : Int) else badLoop s (nx may (byteI s k)) (k + 1))
  else if may ≠ 0 then (s.size : Int) else -1
termination_by s.size - k

set_option maxHeartbeats 1000000 in
theorem bad_any (s : ByteArray) (w : World) (hs : s.size ≤ maxLen) :
    Calls Try.prog 46 #[.string s] w fun e w' => e = .returned (.int .i64 (badLoop s 0 0)) ∧ w' = w := by
  unfold maxLen at hs
  go_enter Try.func46, Try.ntmps46
  go_wp2
  go_loop [3, 4] (fun m i => ∃ (k : Nat) (may : Int), k ≤ s.size ∧ i = .int .i64 k ∧ m = .int .i64 may ∧ 0 ≤ may ∧ may ≤ 4 ∧ Hid (badLoop s 0 0 = badLoop s may k)) (fun _ i => s.size - (intOf i).toNat)
  case atStart => exact ⟨0, 0, Nat.zero_le _, rfl, rfl, by omega, by omega, rfl⟩
  case round =>
    obtain ⟨k, may, hk, rfl, rfl, hm0, hm4, hh⟩ := hrel
    by_cases hlt : k < s.size
    · have hb : Hid (badLoop s 0 0 = if nx may (byteI s k) < 0 then (k : Int) else badLoop s (nx may (byteI s k)) (k + 1)) := by rw [Hid, hh.out, badLoop, if_pos hlt]
      clear hh
      have hr := nx_range may (byteI s k)
      have hlo := byteI_lo s k
      have hhi := byteI_hi s k
      have hbk := byteI_in hlt
      have hnx := fun w => next_any may (byteI s k) w hm0 hm4 hlo hhi
      generalize nx may (byteI s k) = m' at hb hr hnx
      by_cases hneg : m' < 0
      · go_wp2_with (go_at_call 75; refine (hnx _).mono ?_; rintro e w2 ⟨rfl, rfl⟩)
        go_ret
        exact ⟨ret_int (by rw [hb.out, if_pos hneg]), rfl⟩
      · go_wp2_with (go_at_call 75; refine (hnx _).mono ?_; rintro e w2 ⟨rfl, rfl⟩)
        go_round
        case rel => exact ⟨k + 1, m', by omega, by go_num, rfl, by omega, by omega, by rw [Hid, hb.out, if_neg (by omega)]⟩
        case measure => simp [intOf]; omega
    · have hb : Hid (badLoop s 0 0 = if may ≠ 0 then (s.size : Int) else -1) := by rw [Hid, hh.out, badLoop, if_neg hlt]
      clear hh
      by_cases h0 : may = 0
      · have h0' : (may != 0) = false := by simpa using h0
        go_wp2
        go_ret
        exact ⟨ret_int (by rw [hb.out, if_neg (by omega)]), rfl⟩
      · have h0' : (may != 0) = true := by simpa using h0
        go_wp2
        go_ret
        exact ⟨ret_int (by rw [hb.out, if_pos h0]), rfl⟩

theorem below_app {B : Nat} {w wr w2 : World} {v : Value} {e : TypeId} {size n : Nat} {xs : List Value} (hB : Below B w wr) (hsz : B ≤ wr.heap.size) (o : Obj) (hg : (wr.alloc o).grownBy w2 v.ownBlock) (hown : wr.ownsRow B e size v n xs) : Below B w w2 :=
  (hB.alloc hsz o).grown hg (by simp; omega) (fun k hk => (hown.lt k hk).1)

/-- The texts of the threads. -/
def thLoop (s : ByteArray) (frm k : Nat) (done : List ByteArray) : List ByteArray :=
  if k < s.size then
    (if byteI s k = 59 then thLoop s (k + 1) (k + 1) (done ++ [s.extract frm k]) else thLoop s frm (k + 1) done)
  else done ++ [s.extract frm s.size]
termination_by s.size - k

theorem infoString : (Try.prog.info? 9).map (fun i => (i.zero, i.size, i.bytes)) = some (some (.string ⟨#[]⟩), 1, 16) := by kernel_rfl

set_option maxHeartbeats 1000000 in
theorem threads_any (s : ByteArray) (w : World) (hs : s.size ≤ 160) :
    Calls Try.prog 47 #[.string s] w fun e w' => ∃ v, e = .returned v ∧ Below w.heap.size w w' ∧
      w'.ownsRow w.heap.size 9 1 v (thLoop s 0 0 []).length ((thLoop s 0 0 []).map Value.string) ∧ v.ownBlock ≠ none := by
  go_enter Try.func47, Try.ntmps47
  go_wp2
  go_loopw [3, 4, 5] (fun v f i wr => ∃ (k frm : Nat) (done : List ByteArray), k ≤ s.size ∧ frm ≤ k ∧ done.length ≤ k ∧ i = .int .i64 k ∧ f = .int .i64 frm ∧ Hid (thLoop s 0 0 [] = thLoop s frm k done) ∧ Below w.heap.size w wr ∧
      wr.ownsRow w.heap.size 9 1 v done.length (done.map Value.string)) (fun _ _ i _ => s.size - (intOf i).toNat)
  case atStart => exact ⟨0, 0, [], Nat.zero_le _, Nat.zero_le _, Nat.zero_le _, rfl, rfl, rfl, Below.refl _ _, World.ownsRow_nil _ _ _ _⟩
  case round =>
    obtain ⟨k, frm, done, hk, hf, hd, rfl, rfl, hh, hB, hown⟩ := hrel
    by_cases hlt : k < s.size
    · have hbk := byteI_in hlt
      by_cases h59 : byteI s k = 59
      · have hh2 : Hid (thLoop s 0 0 [] = thLoop s (k + 1) (k + 1) (done ++ [s.extract frm k])) := by rw [Hid, hh.out, thLoop, if_pos hlt, if_pos h59]
        clear hh
        go_wp2_with (at_builtin; go_loud (refine wpList_appendLit _ rfl _ _ 76 rfl w.heap.size 9 (.string ⟨#[]⟩) 1 16 Try.underlying76 infoString rfl (by decide) _ _ _ rfl hown _ _ rfl rfl rfl ?c2 ?c3 ?c4 ?c5 ?_))
        case c2 => rfl
        case c3 => omega
        case c4 => omega
        case c5 => exact hB.size
        intro v' w2 ho hg hfr hn
        have hB2 := below_app hB hB.size _ hg hown
        clear hg hfr hn hB hown
        go_wp2
        go_roundw
        case rel => exact ⟨k + 1, k + 1, done ++ [s.extract frm k], by omega, by omega, by simp; omega, by go_num, by go_num, hh2, hB2, by simpa using ho⟩
        case measure => simp [intOf]; omega
      · have hh2 : Hid (thLoop s 0 0 [] = thLoop s frm (k + 1) done) := by rw [Hid, hh.out, thLoop, if_pos hlt, if_neg h59]
        have h59' : (byteI s k == 59) = false := by simpa using h59
        clear hh
        go_wp2
        go_roundw
        case rel => exact ⟨k + 1, frm, done, by omega, by omega, by omega, by go_num, rfl, hh2, hB, hown⟩
        case measure => simp [intOf]; omega
    · have hh2 : Hid (thLoop s 0 0 [] = done ++ [s.extract frm s.size]) := by rw [Hid, hh.out, thLoop, if_neg hlt]
      clear hh
      go_wp2_with (at_builtin; go_loud (refine wpList_appendLit _ rfl _ _ 76 rfl w.heap.size 9 (.string ⟨#[]⟩) 1 16 Try.underlying76 infoString rfl (by decide) _ _ _ rfl hown _ _ rfl rfl rfl ?c2 ?c3 ?c4 ?c5 ?_))
      case c2 => rfl
      case c3 => omega
      case c4 => omega
      case c5 => exact hB.size
      intro v' w2 ho hg hfr hn
      have hB2 := below_app hB hB.size _ hg hown
      clear hg hfr hB hown
      go_wp2
      go_ret
      refine ⟨_, rfl, hB2, ?_, hn⟩
      rw [hh2.out]
      simpa using ho

/-- How many bytes an instruction has that begins with this one. -/
def wid (c : Int) : Nat := if c = 33 ∨ c = 126 ∨ c = 60 ∨ c = 62 then 2 else if c = 63 then 3 else 1
theorem wid_range (c : Int) : 1 ≤ wid c ∧ wid c ≤ 3 := by unfold wid; split <;> (try split) <;> omega
/-- The end of the instruction that begins at a place. -/
def stEnd (s : ByteArray) (i : Nat) : Nat := if s.size < i + wid (byteI s i) then s.size else i + wid (byteI s i)
/-- The instructions of a thread. -/
def stLoop (s : ByteArray) (i : Nat) (done : List ByteArray) : List ByteArray :=
  if _h : i < s.size then stLoop s (stEnd s i) (done ++ [s.extract i (stEnd s i)]) else done
termination_by s.size - i
decreasing_by
  have := wid_range (byteI s i)
  unfold stEnd
  split <;> omega

set_option maxHeartbeats 2000000 in
theorem steps_any (s : ByteArray) (w : World) (hs : s.size ≤ 160) :
    Calls Try.prog 48 #[.string s] w fun e w' => ∃ v, e = .returned v ∧ Below w.heap.size w w' ∧
      w'.ownsRow w.heap.size 9 1 v (stLoop s 0 []).length ((stLoop s 0 []).map Value.string) ∧ (stLoop s 0 []).length ≤ 160 := by
  go_enter Try.func48, Try.ntmps48
  go_wp2
  go_loopw [3, 4] (fun v i wr => ∃ (k : Nat) (done : List ByteArray), k ≤ s.size ∧ done.length ≤ k ∧ i = .int .i64 k ∧ Hid (stLoop s 0 [] = stLoop s k done) ∧ Below w.heap.size w wr ∧
      wr.ownsRow w.heap.size 9 1 v done.length (done.map Value.string)) (fun _ i _ => s.size - (intOf i).toNat)
  case atStart => exact ⟨0, [], Nat.zero_le _, Nat.zero_le _, rfl, rfl, Below.refl _ _, World.ownsRow_nil _ _ _ _⟩
  case round =>
    obtain ⟨k, done, hk, hd, rfl, hh, hB, hown⟩ := hrel
    by_cases hlt : k < s.size
    · have hbk := byteI_in hlt
      have hh2 : Hid (stLoop s 0 [] = stLoop s (stEnd s k) (done ++ [s.extract k (stEnd s k)])) := by rw [Hid, hh.out, stLoop, dif_pos hlt]
      clear hh
      have hcs : byteI s k = 33 ∨ byteI s k = 126 ∨ byteI s k = 60 ∨ byteI s k = 62 ∨ byteI s k = 63 ∨ (byteI s k ≠ 33 ∧ byteI s k ≠ 126 ∧ byteI s k ≠ 60 ∧ byteI s k ≠ 62 ∧ byteI s k ≠ 63) := by omega
      rcases hcs with hc | hc | hc | hc | hc | hc
      · have hw : stEnd s k = if s.size < k + 2 then s.size else k + 2 := by rw [stEnd, hc]; rfl
        by_cases hend : s.size < k + 2
        · rw [if_pos hend] at hw
          rw [hw] at hh2
          clear hw
          go_wp2_with (at_builtin; go_loud (refine wpList_appendLit _ rfl _ _ 76 rfl w.heap.size 9 (.string ⟨#[]⟩) 1 16 Try.underlying76 infoString rfl (by decide) _ _ _ rfl hown _ _ rfl rfl rfl ?c2 ?c3 ?c4 ?c5 ?_))
          case c2 => rfl
          case c3 => omega
          case c4 => omega
          case c5 => exact hB.size
          intro v' w2 ho hg hfr hn
          have hB2 := below_app hB hB.size _ hg hown
          clear hg hfr hn hB hown
          go_wp2
          go_roundw
          case rel => exact ⟨s.size, done ++ [s.extract k (s.size)], by omega, by simp; omega, by go_num, hh2, hB2, by simpa using ho⟩
          case measure => simp [intOf]; omega
        · rw [if_neg hend] at hw
          rw [hw] at hh2
          clear hw
          go_wp2_with (at_builtin; go_loud (refine wpList_appendLit _ rfl _ _ 76 rfl w.heap.size 9 (.string ⟨#[]⟩) 1 16 Try.underlying76 infoString rfl (by decide) _ _ _ rfl hown _ _ rfl rfl rfl ?c2 ?c3 ?c4 ?c5 ?_))
          case c2 => rfl
          case c3 => omega
          case c4 => omega
          case c5 => exact hB.size
          intro v' w2 ho hg hfr hn
          have hB2 := below_app hB hB.size _ hg hown
          clear hg hfr hn hB hown
          go_wp2
          go_roundw
          case rel => exact ⟨k + 2, done ++ [s.extract k (k + 2)], by omega, by simp; omega, by go_num, hh2, hB2, by simpa using ho⟩
          case measure => simp [intOf]; omega
      · have hw : stEnd s k = if s.size < k + 2 then s.size else k + 2 := by rw [stEnd, hc]; rfl
        by_cases hend : s.size < k + 2
        · rw [if_pos hend] at hw
          rw [hw] at hh2
          clear hw
          go_wp2_with (at_builtin; go_loud (refine wpList_appendLit _ rfl _ _ 76 rfl w.heap.size 9 (.string ⟨#[]⟩) 1 16 Try.underlying76 infoString rfl (by decide) _ _ _ rfl hown _ _ rfl rfl rfl ?c2 ?c3 ?c4 ?c5 ?_))
          case c2 => rfl
          case c3 => omega
          case c4 => omega
          case c5 => exact hB.size
          intro v' w2 ho hg hfr hn
          have hB2 := below_app hB hB.size _ hg hown
          clear hg hfr hn hB hown
          go_wp2
          go_roundw
          case rel => exact ⟨s.size, done ++ [s.extract k (s.size)], by omega, by simp; omega, by go_num, hh2, hB2, by simpa using ho⟩
          case measure => simp [intOf]; omega
        · rw [if_neg hend] at hw
          rw [hw] at hh2
          clear hw
          go_wp2_with (at_builtin; go_loud (refine wpList_appendLit _ rfl _ _ 76 rfl w.heap.size 9 (.string ⟨#[]⟩) 1 16 Try.underlying76 infoString rfl (by decide) _ _ _ rfl hown _ _ rfl rfl rfl ?c2 ?c3 ?c4 ?c5 ?_))
          case c2 => rfl
          case c3 => omega
          case c4 => omega
          case c5 => exact hB.size
          intro v' w2 ho hg hfr hn
          have hB2 := below_app hB hB.size _ hg hown
          clear hg hfr hn hB hown
          go_wp2
          go_roundw
          case rel => exact ⟨k + 2, done ++ [s.extract k (k + 2)], by omega, by simp; omega, by go_num, hh2, hB2, by simpa using ho⟩
          case measure => simp [intOf]; omega
      · have hw : stEnd s k = if s.size < k + 2 then s.size else k + 2 := by rw [stEnd, hc]; rfl
        by_cases hend : s.size < k + 2
        · rw [if_pos hend] at hw
          rw [hw] at hh2
          clear hw
          go_wp2_with (at_builtin; go_loud (refine wpList_appendLit _ rfl _ _ 76 rfl w.heap.size 9 (.string ⟨#[]⟩) 1 16 Try.underlying76 infoString rfl (by decide) _ _ _ rfl hown _ _ rfl rfl rfl ?c2 ?c3 ?c4 ?c5 ?_))
          case c2 => rfl
          case c3 => omega
          case c4 => omega
          case c5 => exact hB.size
          intro v' w2 ho hg hfr hn
          have hB2 := below_app hB hB.size _ hg hown
          clear hg hfr hn hB hown
          go_wp2
          go_roundw
          case rel => exact ⟨s.size, done ++ [s.extract k (s.size)], by omega, by simp; omega, by go_num, hh2, hB2, by simpa using ho⟩
          case measure => simp [intOf]; omega
        · rw [if_neg hend] at hw
          rw [hw] at hh2
          clear hw
          go_wp2_with (at_builtin; go_loud (refine wpList_appendLit _ rfl _ _ 76 rfl w.heap.size 9 (.string ⟨#[]⟩) 1 16 Try.underlying76 infoString rfl (by decide) _ _ _ rfl hown _ _ rfl rfl rfl ?c2 ?c3 ?c4 ?c5 ?_))
          case c2 => rfl
          case c3 => omega
          case c4 => omega
          case c5 => exact hB.size
          intro v' w2 ho hg hfr hn
          have hB2 := below_app hB hB.size _ hg hown
          clear hg hfr hn hB hown
          go_wp2
          go_roundw
          case rel => exact ⟨k + 2, done ++ [s.extract k (k + 2)], by omega, by simp; omega, by go_num, hh2, hB2, by simpa using ho⟩
          case measure => simp [intOf]; omega
      · have hw : stEnd s k = if s.size < k + 2 then s.size else k + 2 := by rw [stEnd, hc]; rfl
        by_cases hend : s.size < k + 2
        · rw [if_pos hend] at hw
          rw [hw] at hh2
          clear hw
          go_wp2_with (at_builtin; go_loud (refine wpList_appendLit _ rfl _ _ 76 rfl w.heap.size 9 (.string ⟨#[]⟩) 1 16 Try.underlying76 infoString rfl (by decide) _ _ _ rfl hown _ _ rfl rfl rfl ?c2 ?c3 ?c4 ?c5 ?_))
          case c2 => rfl
          case c3 => omega
          case c4 => omega
          case c5 => exact hB.size
          intro v' w2 ho hg hfr hn
          have hB2 := below_app hB hB.size _ hg hown
          clear hg hfr hn hB hown
          go_wp2
          go_roundw
          case rel => exact ⟨s.size, done ++ [s.extract k (s.size)], by omega, by simp; omega, by go_num, hh2, hB2, by simpa using ho⟩
          case measure => simp [intOf]; omega
        · rw [if_neg hend] at hw
          rw [hw] at hh2
          clear hw
          go_wp2_with (at_builtin; go_loud (refine wpList_appendLit _ rfl _ _ 76 rfl w.heap.size 9 (.string ⟨#[]⟩) 1 16 Try.underlying76 infoString rfl (by decide) _ _ _ rfl hown _ _ rfl rfl rfl ?c2 ?c3 ?c4 ?c5 ?_))
          case c2 => rfl
          case c3 => omega
          case c4 => omega
          case c5 => exact hB.size
          intro v' w2 ho hg hfr hn
          have hB2 := below_app hB hB.size _ hg hown
          clear hg hfr hn hB hown
          go_wp2
          go_roundw
          case rel => exact ⟨k + 2, done ++ [s.extract k (k + 2)], by omega, by simp; omega, by go_num, hh2, hB2, by simpa using ho⟩
          case measure => simp [intOf]; omega
      · have hw : stEnd s k = if s.size < k + 3 then s.size else k + 3 := by rw [stEnd, hc]; rfl
        by_cases hend : s.size < k + 3
        · rw [if_pos hend] at hw
          rw [hw] at hh2
          clear hw
          go_wp2_with (at_builtin; go_loud (refine wpList_appendLit _ rfl _ _ 76 rfl w.heap.size 9 (.string ⟨#[]⟩) 1 16 Try.underlying76 infoString rfl (by decide) _ _ _ rfl hown _ _ rfl rfl rfl ?c2 ?c3 ?c4 ?c5 ?_))
          case c2 => rfl
          case c3 => omega
          case c4 => omega
          case c5 => exact hB.size
          intro v' w2 ho hg hfr hn
          have hB2 := below_app hB hB.size _ hg hown
          clear hg hfr hn hB hown
          go_wp2
          go_roundw
          case rel => exact ⟨s.size, done ++ [s.extract k (s.size)], by omega, by simp; omega, by go_num, hh2, hB2, by simpa using ho⟩
          case measure => simp [intOf]; omega
        · rw [if_neg hend] at hw
          rw [hw] at hh2
          clear hw
          go_wp2_with (at_builtin; go_loud (refine wpList_appendLit _ rfl _ _ 76 rfl w.heap.size 9 (.string ⟨#[]⟩) 1 16 Try.underlying76 infoString rfl (by decide) _ _ _ rfl hown _ _ rfl rfl rfl ?c2 ?c3 ?c4 ?c5 ?_))
          case c2 => rfl
          case c3 => omega
          case c4 => omega
          case c5 => exact hB.size
          intro v' w2 ho hg hfr hn
          have hB2 := below_app hB hB.size _ hg hown
          clear hg hfr hn hB hown
          go_wp2
          go_roundw
          case rel => exact ⟨k + 3, done ++ [s.extract k (k + 3)], by omega, by simp; omega, by go_num, hh2, hB2, by simpa using ho⟩
          case measure => simp [intOf]; omega
      · obtain ⟨g1, g2, g3, g4, g5⟩ := hc
        have b1 : (byteI s k == 33) = false := by simpa using g1
        have b2 : (byteI s k == 126) = false := by simpa using g2
        have b3 : (byteI s k == 60) = false := by simpa using g3
        have b4 : (byteI s k == 62) = false := by simpa using g4
        have b5 : (byteI s k == 63) = false := by simpa using g5
        have hw : stEnd s k = k + 1 := by simp only [stEnd, wid, g1, g2, g3, g4, g5]; simp; omega
        rw [hw] at hh2
        clear hw
        go_wp2_with (at_builtin; go_loud (refine wpList_appendLit _ rfl _ _ 76 rfl w.heap.size 9 (.string ⟨#[]⟩) 1 16 Try.underlying76 infoString rfl (by decide) _ _ _ rfl hown _ _ rfl rfl rfl ?c2 ?c3 ?c4 ?c5 ?_))
        case c2 => rfl
        case c3 => omega
        case c4 => omega
        case c5 => exact hB.size
        intro v' w2 ho hg hfr hn
        have hB2 := below_app hB hB.size _ hg hown
        clear hg hfr hn hB hown
        go_wp2
        go_roundw
        case rel => exact ⟨k + 1, done ++ [s.extract k (k + 1)], by omega, by simp; omega, by go_num, hh2, hB2, by simpa using ho⟩
        case measure => simp [intOf]; omega
    · go_wp2
      go_ret
      have hh2 : stLoop s 0 [] = done := by rw [hh.out, stLoop, dif_neg hlt]
      refine ⟨_, rfl, hB, ?_, ?_⟩
      · rw [hh2]; exact hown
      · rw [hh2]; omega
end Go.Proofs.Ytfdbnilopfnifaa
