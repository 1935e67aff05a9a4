import Derived.Test.YtfdbnilopfnifaaB1
namespace Go.Proofs.Ytfdbnilopfnifaa
open Go.RowKit

theorem readNamed_next (s : ByteArray) (k : Nat) (kind f l : Int) (h : (readNamed s k kind f l).2.2 = true) : (readNamed s k kind f l).2.1 = k + 1 := by
  unfold readNamed at h ⊢
  split <;> simp_all
theorem readSkip_next (s : ByteArray) (k : Nat) (h : (readSkip s k).2.2 = true) : (readSkip s k).2.1 = k + 2 := by
  unfold readSkip at h ⊢
  split <;> simp_all
  split <;> simp_all
theorem readStep_next (s : ByteArray) (k : Nat) (h : (readStep s k).2.2 = true) : k < (readStep s k).2.1 ∧ (readStep s k).2.1 ≤ k + 3 := by
  unfold readStep at h ⊢
  repeat' split
  all_goals simp only [*, if_true, if_false] at h
  all_goals first
    | (simp; done)
    | (have := readNamed_next _ _ _ _ _ h; omega)
    | (have := readSkip_next _ _ h; omega)
    | (simp at h; done)

/-- The threads of a text, or the place of its first wrong byte. -/
def rtLoop (s : ByteArray) (k : Nat) (done : List (List Stp)) (cur : List Stp) : List (List Stp) ⊕ Nat :=
  if k < s.size then
    if byteI s k = 59 then rtLoop s (k + 1) (done ++ [cur]) []
    else if _h : (readStep s k).2.2 = true then rtLoop s (readStep s k).2.1 done (cur ++ [(readStep s k).1])
    else .inr (readStep s k).2.1
  else .inl (done ++ [cur])
termination_by s.size - k
decreasing_by
  · omega
  · have := readStep_next s k _h; omega

def stepCells (x : Stp) : List Value := [.int .i64 x.kind, .int .i64 x.which, .int .i64 x.count]
def rowT (l : List Stp) (v : Value) : RowD := ⟨140, 3, v, l.length, l.flatMap stepCells⟩
def rowsT : List (List Stp) → List Value → List RowD
  | l :: ls, v :: vs => rowT l v :: rowsT ls vs
  | _, _ => []
def rowV (n : Nat) (v : Value) (vs : List Value) : RowD := ⟨156, 1, v, n, vs⟩

theorem rowsT_snoc : ∀ (ls : List (List Stp)) (vs : List Value) (l : List Stp) (v : Value), ls.length = vs.length → rowsT (ls ++ [l]) (vs ++ [v]) = rowsT ls vs ++ [rowT l v]
  | [], [], _, _, _ => rfl
  | a :: ls, b :: vs, l, v, h => by
    simp only [List.cons_append, rowsT]
    rw [rowsT_snoc ls vs l v (by simpa using h)]
  | [], _ :: _, _, _, h => by simp at h
  | _ :: _, [], _, _, h => by simp at h

theorem flat_snoc (l : List Stp) (x : Stp) : (l ++ [x]).flatMap stepCells = l.flatMap stepCells ++ stepCells x := by simp

/-- What holds at each round's head in readThreads. -/
structure RT (w wr : World) (V T : Value) (done : List (List Stp)) (cur : List Stp) (vs : List Value) : Prop where
  below : Below w.heap.size w wr
  len : vs.length = done.length
  fam : Fam wr w.heap.size (rowT cur T :: rowV done.length V vs :: rowsT done vs)

theorem RT.formT {w wr : World} {V T : Value} {done : List (List Stp)} {cur : List Stp} {vs : List Value} (h : RT w wr V T done cur vs) : ∃ g cap, T = .slice (some ⟨g, 0, none⟩) cur.length cap ∧ g < wr.heap.size := by
  obtain ⟨g, cap, h1, _, h2⟩ := (h.fam.1 _ (List.mem_cons_self ..)).form
  exact ⟨g, cap, h1, h2⟩
theorem RT.formV {w wr : World} {V T : Value} {done : List (List Stp)} {cur : List Stp} {vs : List Value} (h : RT w wr V T done cur vs) : ∃ g cap, V = .slice (some ⟨g, 0, none⟩) done.length cap ∧ g < wr.heap.size := by
  obtain ⟨g, cap, h1, _, h2⟩ := (h.fam.1 _ (List.mem_cons_of_mem _ (List.mem_cons_self ..))).form
  exact ⟨g, cap, h1, h2⟩
theorem RT.ownT {w wr : World} {V T : Value} {done : List (List Stp)} {cur : List Stp} {vs : List Value} (h : RT w wr V T done cur vs) : wr.ownsRow w.heap.size 140 3 T cur.length (cur.flatMap stepCells) := h.fam.own
theorem RT.ownV {w wr : World} {V T : Value} {done : List (List Stp)} {cur : List Stp} {vs : List Value} (h : RT w wr V T done cur vs) : wr.ownsRow w.heap.size 156 1 V done.length vs := h.fam.tail.own
theorem RT.start (w : World) : RT w ((w.alloc (Obj.cells #[] 156)).alloc (Obj.cells #[] 140)) (Value.slice (some ⟨w.heap.size, 0, none⟩) 0 0) (Value.slice (some ⟨w.heap.size + 1, 0, none⟩) 0 0) [] [] [] := by
  refine ⟨((Below.refl _ w).alloc (Nat.le_refl _) _).alloc (by simp) _, rfl, ?_⟩
  have h0 : Fam w w.heap.size [] := ⟨by simp, List.Pairwise.nil⟩
  have h1 := h0.lit (Nat.le_refl _) 156 1 #[] 0 (Nat.zero_le _) rfl
  have h2 := h1.lit (by simp) 140 3 #[] 0 (Nat.zero_le _) rfl
  simpa [rowT, rowV, rowsT] using h2
theorem RT.next {w w2 : World} {V T : Value} {done : List (List Stp)} {cur : List Stp} {vs : List Value}
    (hb : Below w.heap.size w w2) (hl : vs.length = done.length) (hf : Fam w2 w.heap.size (rowV (done ++ [cur]).length V (vs ++ [T]) :: rowsT (done ++ [cur]) (vs ++ [T]))) :
    RT w (w2.alloc (Obj.cells #[] 140)) V (Value.slice (some ⟨w2.heap.size, 0, none⟩) 0 0) (done ++ [cur]) [] (vs ++ [T]) := by
  refine ⟨hb.alloc hb.size _, by simp [hl], ?_⟩
  have h2 := hf.lit hb.size 140 3 #[] 0 (Nat.zero_le _) rfl
  simpa [rowT, rowV, rowsT] using h2
theorem RT.below1 {w wr w1 : World} {V T : Value} {done : List (List Stp)} {cur : List Stp} {vs : List Value} (h : RT w wr V T done cur vs) (hb : Below wr.heap.size wr w1) : RT w w1 V T done cur vs :=
  ⟨h.below.trans (hb.mono h.below.size), h.len, h.fam.below hb⟩
theorem RT.pushStep {w wr w1 w2 : World} {V T T' : Value} {done : List (List Stp)} {cur : List Stp} {vs : List Value} {x : Stp} (h : RT w wr V T done cur vs) (hb : Below wr.heap.size wr w1)
    (hown : w2.ownsRow w.heap.size 140 3 T' (cur.length + 1) (cur.flatMap stepCells ++ stepCells x)) (hg : w1.grownBy w2 T.ownBlock) (hf : Fresh w1 T T') (hn : T'.ownBlock ≠ none) : RT w w2 V T' done (cur ++ [x]) vs := by
  have hfam := h.fam.below hb
  refine ⟨?_, h.len, Fam.head (r := rowT cur T) (r' := rowT (cur ++ [x]) T') hfam hg hf ⟨?_, hn⟩⟩
  · refine (h.below.trans (hb.mono h.below.size)).grown hg (Nat.le_trans h.below.size hb.size) fun k hk => ?_
    exact (hfam.own.lt k hk).1
  · simpa [rowT, flat_snoc] using hown

theorem RT.pushThread {w wr w1 w2 : World} {V V' T : Value} {done : List (List Stp)} {cur : List Stp} {vs : List Value} (h : RT w wr V T done cur vs) (hb : Below wr.heap.size wr w1)
    (hown : w2.ownsRow w.heap.size 156 1 V' (done.length + 1) (vs ++ [T])) (hg : w1.grownBy w2 V.ownBlock) (hf : Fresh w1 V V') (hn : V'.ownBlock ≠ none) :
    Below w.heap.size w w2 ∧ Fam w2 w.heap.size (rowV (done ++ [cur]).length V' (vs ++ [T]) :: rowsT (done ++ [cur]) (vs ++ [T])) := by
  have hfam := (h.fam.below hb).perm (List.Perm.swap _ _ _)
  have h1 := Fam.head (r := rowV done.length V vs) (r' := rowV (done.length + 1) V' (vs ++ [T])) hfam hg hf ⟨hown, hn⟩
  refine ⟨?_, ?_⟩
  · refine (h.below.trans (hb.mono h.below.size)).grown hg (Nat.le_trans h.below.size hb.size) fun k hk => ?_
    exact (hfam.own.lt k hk).1
  · rw [rowsT_snoc done vs cur T h.len.symm]
    have hl : (done ++ [cur]).length = done.length + 1 := by simp
    rw [hl]
    refine h1.perm (List.Perm.cons _ ?_)
    exact List.perm_append_comm (l₁ := [rowT cur T])

theorem infoStep : (Try.prog.info? 140).map (fun i => (i.zero, i.size, i.bytes)) = some (some (.agg #[.int .i64 0, .int .i64 0, .int .i64 0]), 3, 24) := by kernel_rfl
theorem infoSteps : (Try.prog.info? 156).map (fun i => (i.zero, i.size, i.bytes)) = some (some (.slice none 0 0), 1, 24) := by kernel_rfl

end Go.Proofs.Ytfdbnilopfnifaa
namespace Go.Proofs.Ytfdbnilopfnifaa
open Go.RowKit

set_option maxHeartbeats 2000000 in
set_option maxRecDepth 100000 in
theorem readThreads_any (s : ByteArray) (w : World) (hs : s.size ≤ 160) :
    Calls Try.prog 72 #[.string s] w fun e w' => Below w.heap.size w w' ∧
      ((∃ L V vs, rtLoop s 0 [] [] = .inl L ∧ e = .returned (.tuple #[V, .int .i64 (-1)]) ∧ vs.length = L.length ∧ Fam w' w.heap.size (rowV L.length V vs :: rowsT L vs)) ∨
       (∃ p : Nat, rtLoop s 0 [] [] = .inr p ∧ e = .returned (.tuple #[.slice none 0 0, .int .i64 p]))) := by
  have hmx : s.size ≤ maxLen := by unfold maxLen; omega
  go_enter Try.func72, Try.ntmps72
  go_wp2
  go_loopw [4, 5, 6] (fun V T i wr => ∃ (k : Nat) (done : List (List Stp)) (cur : List Stp) (vs : List Value), k ≤ s.size + 3 ∧ i = .int .i64 k ∧ done.length + cur.length ≤ k ∧
      Hid (rtLoop s 0 [] [] = rtLoop s k done cur) ∧ RT w wr V T done cur vs)
    (fun _ _ i _ => s.size + 3 - (intOf i).toNat)
  case atStart =>
    exact ⟨0, [], [], [], by omega, rfl, by simp, rfl, RT.start w⟩
  case round =>
    obtain ⟨k, done, cur, vs, hk, rfl, hlen, hh, R⟩ := hrel
    obtain ⟨gT, cT, hT, hgT⟩ := R.formT
    obtain ⟨gV, cV, hV, hgV⟩ := R.formV
    subst hT hV
    by_cases hlt : k < s.size
    · by_cases hsemi : byteI s k = 59
      · have hb : ((s[k].toNat : Int) == 59) = true := by rw [byteI_in hlt]; simpa using hsemi
        go_wp2_with (at_builtin; go_loud (refine wpList_appendLit _ rfl _ _ 70 rfl w.heap.size 156 (.slice none 0 0) 1 24 Try.underlying70 infoSteps rfl (by decide) _ _ _ rfl R.ownV _ _ rfl rfl rfl ?c2 ?c3 ?c4 ?c5 ?_))
        case c2 => rfl
        case c3 => omega
        case c4 => omega
        case c5 => exact R.below.size
        intro V' w2 hown hg hf hn
        obtain ⟨hB2, hF2⟩ := R.pushThread ((Below.refl _ _).alloc (Nat.le_refl _) _) hown hg hf hn
        have R2 := RT.next hB2 R.len hF2
        clear hown hg hf hn R
        go_wp2
        go_roundw
        case rel =>
          refine ⟨k + 1, done ++ [cur], [], vs ++ [.slice (some ⟨gT, 0, none⟩) cur.length cT], by omega, by go_num, by simp; omega, ?_, R2⟩
          rw [Hid, hh.out, rtLoop, if_pos hlt, if_pos hsemi]
        case measure => simp [intOf]; omega
      · have hb : ((s[k].toNat : Int) == 59) = false := by rw [byteI_in hlt]; simpa using hsemi
        by_cases hok : (readStep s k).2.2 = true
        · have hnx := readStep_next s k hok
          have hstep := readStep_any s k wr hmx (by omega)
          have HH : Hid (rtLoop s 0 [] [] = rtLoop s (readStep s k).2.1 done (cur ++ [(readStep s k).1])) := by
            rw [Hid, hh.out, rtLoop, if_pos hlt, if_neg hsemi, dif_pos hok]
          generalize readStep s k = r at hok hnx hstep HH
          obtain ⟨x, nx, ok⟩ := r
          simp only at hok hnx HH
          subst hok
          clear hh hsemi
          go_wp2_with (first
            | (go_at_call 102; refine hstep.mono ?_; rintro e w1 ⟨he, hb1⟩; rw [readV] at he; subst he; clear hstep)
            | (at_builtin; go_loud (refine wpList_appendLit _ rfl _ _ 156 rfl w.heap.size 140 (.agg #[.int .i64 0, .int .i64 0, .int .i64 0]) 3 24 Try.underlying156 infoStep rfl (by decide) _ _ _ rfl ((R.below1 hb1).ownT.alloc _) _ (w1.heap.size + 1) (by simp) rfl rfl ?c2 ?c3 ?c4 ?c5 ?_)))
          case c2 => exact ⟨rfl, rfl, rfl⟩
          case c3 => omega
          case c4 => omega
          case c5 => have := (R.below1 hb1).below.size; simp; omega
          intro T' w2 hown hg hf hn
          have R2 := R.pushStep (x := x) (((hb1.alloc hb1.size _).alloc (by have := hb1.size; simp; omega) _)) hown hg hf hn
          clear hown hg hf hn R hb1
          go_wp2
          go_roundw
          case rel => exact ⟨nx, done, cur ++ [x], vs, by omega, rfl, by simp; omega, HH, R2⟩
          case measure => simp [intOf]; omega
        · have hstep := readStep_any s k wr hmx (by omega)
          have HH : Hid (rtLoop s 0 [] [] = .inr (readStep s k).2.1) := by
            rw [Hid, hh.out, rtLoop, if_pos hlt, if_neg hsemi, dif_neg hok]
          generalize readStep s k = r at hok hstep HH
          obtain ⟨x, nx, ok⟩ := r
          simp only [Bool.not_eq_true] at hok HH
          subst hok
          clear hh hsemi
          go_wp2_with (go_at_call 102; refine hstep.mono ?_; rintro e w1 ⟨he, hb1⟩; rw [readV] at he; subst he; clear hstep)
          go_ret2
          exact ⟨((R.below1 hb1).below.alloc (R.below1 hb1).below.size _), .inr ⟨nx, HH.out, rfl⟩⟩
    · go_wp2_with (at_builtin; go_loud (refine wpList_appendLit _ rfl _ _ 70 rfl w.heap.size 156 (.slice none 0 0) 1 24 Try.underlying70 infoSteps rfl (by decide) _ _ _ rfl R.ownV _ _ rfl rfl rfl ?c2 ?c3 ?c4 ?c5 ?_))
      case c2 => rfl
      case c3 => omega
      case c4 => omega
      case c5 => exact R.below.size
      intro V' w2 hown hg hf hn
      obtain ⟨hB2, hF2⟩ := R.pushThread ((Below.refl _ _).alloc (Nat.le_refl _) _) hown hg hf hn
      have hl := R.len
      clear hown hg hf hn R
      go_wp2
      go_ret2
      refine ⟨hB2, .inl ⟨done ++ [cur], V', vs ++ [.slice (some ⟨gT, 0, none⟩) cur.length cT], ?_, rfl, by simp [hl], hF2⟩⟩
      rw [hh.out, rtLoop, if_neg hlt]
end Go.Proofs.Ytfdbnilopfnifaa
