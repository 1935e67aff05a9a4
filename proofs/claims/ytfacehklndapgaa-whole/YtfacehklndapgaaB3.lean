import Derived.Test.YtfacehklndapgaaB2
namespace Go.Proofs.Ytfacehklndapgaa
open Go.RowKit

set_option maxHeartbeats 2000000 in
set_option maxRecDepth 100000 in
theorem readThreads_any (s : ByteArray) (w : World) (hs : s.size ≤ 160) :
    Calls Try.prog 65 #[.string s] w fun e w' => Below w.heap.size w w' ∧
      ((∃ L V vs, rtLoop s 0 [] [] = .inl L ∧ e = .returned (.tuple #[V, .int .i64 (-1)]) ∧ vs.length = L.length ∧ Fam w' w.heap.size (rowV L.length V vs :: rowsT L vs)) ∨
       (∃ p : Nat, rtLoop s 0 [] [] = .inr p ∧ e = .returned (.tuple #[.slice none 0 0, .int .i64 p]))) := by
  have hmx : s.size ≤ maxLen := by unfold maxLen; omega
  go_enter Try.func65, Try.ntmps65
  go_wp2
  go_loopw [4, 5, 6] (fun V T i wr => ∃ (k : Nat) (done : List (List Stp)) (cur : List Stp) (vs : List Value), k ≤ s.size + 3 ∧ i = .int .i64 k ∧ done.length + cur.length ≤ k ∧
      Hid (rtLoop s 0 [] [] = rtLoop s k done cur) ∧ RT w wr V T done cur vs)
    (fun _ _ i _ => s.size + 3 - (intOf i).toNat)
  case atStart =>
    exact ⟨0, [], [], [], by omega, rfl, by simp, rfl, RT.start w⟩
  case round =>
    obtain ⟨k, done, cur, vs, hk, rfl, hlen, hh, R⟩ := hrel
    obtain ⟨gT, cT, hT, hgT⟩ := R.formT
    obtain ⟨gV, cV, hV, hgV⟩ := R.formV
    subst hT hV
    by_cases hlt : k < s.size
    · by_cases hsemi : byteI s k = 59
      · have hb : ((s[k].toNat : Int) == 59) = true := by rw [byteI_in hlt]; simpa using hsemi
        go_wp2_with (at_builtin; go_loud (refine wpList_appendLit _ rfl _ _ 67 rfl w.heap.size 142 (.slice none 0 0) 1 24 Try.underlying67 infoSteps rfl (by decide) _ _ _ rfl R.ownV _ _ rfl rfl rfl ?c2 ?c3 ?c4 ?c5 ?_))
        case c2 => rfl
        case c3 => omega
        case c4 => omega
        case c5 => exact R.below.size
        intro V' w2 hown hg hf hn
        obtain ⟨hB2, hF2⟩ := R.pushThread ((Below.refl _ _).alloc (Nat.le_refl _) _) hown hg hf hn
        have R2 := RT.next hB2 R.len hF2
        clear hown hg hf hn R
        go_wp2
        go_roundw
        case rel =>
          refine ⟨k + 1, done ++ [cur], [], vs ++ [.slice (some ⟨gT, 0, none⟩) cur.length cT], by omega, by go_num, by simp; omega, ?_, R2⟩
          rw [Hid, hh.out, rtLoop, if_pos hlt, if_pos hsemi]
        case measure => simp [intOf]; omega
      · have hb : ((s[k].toNat : Int) == 59) = false := by rw [byteI_in hlt]; simpa using hsemi
        by_cases hok : (readStep s k).2.2 = true
        · have hnx := readStep_next s k hok
          have hstep := readStep_any s k wr hmx (by omega)
          have HH : Hid (rtLoop s 0 [] [] = rtLoop s (readStep s k).2.1 done (cur ++ [(readStep s k).1])) := by
            rw [Hid, hh.out, rtLoop, if_pos hlt, if_neg hsemi, dif_pos hok]
          generalize readStep s k = r at hok hnx hstep HH
          obtain ⟨x, nx, ok⟩ := r
          simp only at hok hnx HH
          subst hok
          clear hh hsemi
          go_wp2_with (first
            | (go_at_call 89; refine hstep.mono ?_; rintro e w1 ⟨he, hb1⟩; rw [readV] at he; subst he; clear hstep)
            | (at_builtin; go_loud (refine wpList_appendLit _ rfl _ _ 142 rfl w.heap.size 132 (.agg #[.int .i64 0, .int .i64 0, .int .i64 0]) 3 24 Try.underlying142 infoStep rfl (by decide) _ _ _ rfl ((R.below1 hb1).ownT.alloc _) _ (w1.heap.size + 1) (by simp) rfl rfl ?c2 ?c3 ?c4 ?c5 ?_)))
          case c2 => exact ⟨rfl, rfl, rfl⟩
          case c3 => omega
          case c4 => omega
          case c5 => have := (R.below1 hb1).below.size; simp; omega
          intro T' w2 hown hg hf hn
          have R2 := R.pushStep (x := x) (((hb1.alloc hb1.size _).alloc (by have := hb1.size; simp; omega) _)) hown hg hf hn
          clear hown hg hf hn R hb1
          go_wp2
          go_roundw
          case rel => exact ⟨nx, done, cur ++ [x], vs, by omega, rfl, by simp; omega, HH, R2⟩
          case measure => simp [intOf]; omega
        · have hstep := readStep_any s k wr hmx (by omega)
          have HH : Hid (rtLoop s 0 [] [] = .inr (readStep s k).2.1) := by
            rw [Hid, hh.out, rtLoop, if_pos hlt, if_neg hsemi, dif_neg hok]
          generalize readStep s k = r at hok hstep HH
          obtain ⟨x, nx, ok⟩ := r
          simp only [Bool.not_eq_true] at hok HH
          subst hok
          clear hh hsemi
          go_wp2_with (go_at_call 89; refine hstep.mono ?_; rintro e w1 ⟨he, hb1⟩; rw [readV] at he; subst he; clear hstep)
          go_ret2
          exact ⟨((R.below1 hb1).below.alloc (R.below1 hb1).below.size _), .inr ⟨nx, HH.out, rfl⟩⟩
    · go_wp2_with (at_builtin; go_loud (refine wpList_appendLit _ rfl _ _ 67 rfl w.heap.size 142 (.slice none 0 0) 1 24 Try.underlying67 infoSteps rfl (by decide) _ _ _ rfl R.ownV _ _ rfl rfl rfl ?c2 ?c3 ?c4 ?c5 ?_))
      case c2 => rfl
      case c3 => omega
      case c4 => omega
      case c5 => exact R.below.size
      intro V' w2 hown hg hf hn
      obtain ⟨hB2, hF2⟩ := R.pushThread ((Below.refl _ _).alloc (Nat.le_refl _) _) hown hg hf hn
      have hl := R.len
      clear hown hg hf hn R
      go_wp2
      go_ret2
      refine ⟨hB2, .inl ⟨done ++ [cur], V', vs ++ [.slice (some ⟨gT, 0, none⟩) cur.length cT], ?_, rfl, by simp [hl], hF2⟩⟩
      rw [hh.out, rtLoop, if_neg hlt]
end Go.Proofs.Ytfacehklndapgaa
