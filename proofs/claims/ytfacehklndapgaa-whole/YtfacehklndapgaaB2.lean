import Derived.Test.YtfacehklndapgaaB1
namespace Go.Proofs.Ytfacehklndapgaa
open Go.RowKit

theorem readNamed_next (s : ByteArray) (k : Nat) (kind f l : Int) (h : (readNamed s k kind f l).2.2 = true) : (readNamed s k kind f l).2.1 = k + 1 := by
  unfold readNamed at h ⊢
  split <;> simp_all
theorem readSkip_next (s : ByteArray) (k : Nat) (h : (readSkip s k).2.2 = true) : (readSkip s k).2.1 = k + 2 := by
  unfold readSkip at h ⊢
  split <;> simp_all
  split <;> simp_all
theorem readStep_next (s : ByteArray) (k : Nat) (h : (readStep s k).2.2 = true) : k < (readStep s k).2.1 ∧ (readStep s k).2.1 ≤ k + 3 := by
  unfold readStep at h ⊢
  repeat' split
  all_goals simp only [*, if_true, if_false] at h
  all_goals first
    | (simp; done)
    | (have := readNamed_next _ _ _ _ _ h; omega)
    | (have := readSkip_next _ _ h; omega)
    | (simp at h; done)

/-- The threads of a text, or the place of its first wrong byte. -/
def rtLoop (s : ByteArray) (k : Nat) (done : List (List Stp)) (cur : List Stp) : List (List Stp) ⊕ Nat :=
  if k < s.size then
    if byteI s k = 59 then rtLoop s (k + 1) (done ++ [cur]) []
    else if _h : (readStep s k).2.2 = true then rtLoop s (readStep s k).2.1 done (cur ++ [(readStep s k).1])
    else .inr (readStep s k).2.1
  else .inl (done ++ [cur])
termination_by s.size - k
decreasing_by
  · omega
  · have := readStep_next s k _h; omega

def stepCells (x : Stp) : List Value := [.int .i64 x.kind, .int .i64 x.which, .int .i64 x.count]
def rowT (l : List Stp) (v : Value) : RowD := ⟨132, 3, v, l.length, l.flatMap stepCells⟩
def rowsT : List (List Stp) → List Value → List RowD
  | l :: ls, v :: vs => rowT l v :: rowsT ls vs
  | _, _ => []
def rowV (n : Nat) (v : Value) (vs : List Value) : RowD := ⟨142, 1, v, n, vs⟩

theorem rowsT_snoc : ∀ (ls : List (List Stp)) (vs : List Value) (l : List Stp) (v : Value), ls.length = vs.length → rowsT (ls ++ [l]) (vs ++ [v]) = rowsT ls vs ++ [rowT l v]
  | [], [], _, _, _ => rfl
  | a :: ls, b :: vs, l, v, h => by
    simp only [List.cons_append, rowsT]
    rw [rowsT_snoc ls vs l v (by simpa using h)]
  | [], _ :: _, _, _, h => by simp at h
  | _ :: _, [], _, _, h => by simp at h

theorem flat_snoc (l : List Stp) (x : Stp) : (l ++ [x]).flatMap stepCells = l.flatMap stepCells ++ stepCells x := by simp

/-- What holds at each round's head in readThreads. -/
structure RT (w wr : World) (V T : Value) (done : List (List Stp)) (cur : List Stp) (vs : List Value) : Prop where
  below : Below w.heap.size w wr
  len : vs.length = done.length
  fam : Fam wr w.heap.size (rowT cur T :: rowV done.length V vs :: rowsT done vs)

theorem RT.formT {w wr : World} {V T : Value} {done : List (List Stp)} {cur : List Stp} {vs : List Value} (h : RT w wr V T done cur vs) : ∃ g cap, T = .slice (some ⟨g, 0, none⟩) cur.length cap ∧ g < wr.heap.size := by
  obtain ⟨g, cap, h1, _, h2⟩ := (h.fam.1 _ (List.mem_cons_self ..)).form
  exact ⟨g, cap, h1, h2⟩
theorem RT.formV {w wr : World} {V T : Value} {done : List (List Stp)} {cur : List Stp} {vs : List Value} (h : RT w wr V T done cur vs) : ∃ g cap, V = .slice (some ⟨g, 0, none⟩) done.length cap ∧ g < wr.heap.size := by
  obtain ⟨g, cap, h1, _, h2⟩ := (h.fam.1 _ (List.mem_cons_of_mem _ (List.mem_cons_self ..))).form
  exact ⟨g, cap, h1, h2⟩
theorem RT.ownT {w wr : World} {V T : Value} {done : List (List Stp)} {cur : List Stp} {vs : List Value} (h : RT w wr V T done cur vs) : wr.ownsRow w.heap.size 132 3 T cur.length (cur.flatMap stepCells) := h.fam.own
theorem RT.ownV {w wr : World} {V T : Value} {done : List (List Stp)} {cur : List Stp} {vs : List Value} (h : RT w wr V T done cur vs) : wr.ownsRow w.heap.size 142 1 V done.length vs := h.fam.tail.own
theorem RT.start (w : World) : RT w ((w.alloc (Obj.cells #[] 142)).alloc (Obj.cells #[] 132)) (Value.slice (some ⟨w.heap.size, 0, none⟩) 0 0) (Value.slice (some ⟨w.heap.size + 1, 0, none⟩) 0 0) [] [] [] := by
  refine ⟨((Below.refl _ w).alloc (Nat.le_refl _) _).alloc (by simp) _, rfl, ?_⟩
  have h0 : Fam w w.heap.size [] := ⟨by simp, List.Pairwise.nil⟩
  have h1 := h0.lit (Nat.le_refl _) 142 1 #[] 0 (Nat.zero_le _) rfl
  have h2 := h1.lit (by simp) 132 3 #[] 0 (Nat.zero_le _) rfl
  simpa [rowT, rowV, rowsT] using h2
theorem RT.next {w w2 : World} {V T : Value} {done : List (List Stp)} {cur : List Stp} {vs : List Value}
    (hb : Below w.heap.size w w2) (hl : vs.length = done.length) (hf : Fam w2 w.heap.size (rowV (done ++ [cur]).length V (vs ++ [T]) :: rowsT (done ++ [cur]) (vs ++ [T]))) :
    RT w (w2.alloc (Obj.cells #[] 132)) V (Value.slice (some ⟨w2.heap.size, 0, none⟩) 0 0) (done ++ [cur]) [] (vs ++ [T]) := by
  refine ⟨hb.alloc hb.size _, by simp [hl], ?_⟩
  have h2 := hf.lit hb.size 132 3 #[] 0 (Nat.zero_le _) rfl
  simpa [rowT, rowV, rowsT] using h2
theorem RT.below1 {w wr w1 : World} {V T : Value} {done : List (List Stp)} {cur : List Stp} {vs : List Value} (h : RT w wr V T done cur vs) (hb : Below wr.heap.size wr w1) : RT w w1 V T done cur vs :=
  ⟨h.below.trans (hb.mono h.below.size), h.len, h.fam.below hb⟩
theorem RT.pushStep {w wr w1 w2 : World} {V T T' : Value} {done : List (List Stp)} {cur : List Stp} {vs : List Value} {x : Stp} (h : RT w wr V T done cur vs) (hb : Below wr.heap.size wr w1)
    (hown : w2.ownsRow w.heap.size 132 3 T' (cur.length + 1) (cur.flatMap stepCells ++ stepCells x)) (hg : w1.grownBy w2 T.ownBlock) (hf : Fresh w1 T T') (hn : T'.ownBlock ≠ none) : RT w w2 V T' done (cur ++ [x]) vs := by
  have hfam := h.fam.below hb
  refine ⟨?_, h.len, Fam.head (r := rowT cur T) (r' := rowT (cur ++ [x]) T') hfam hg hf ⟨?_, hn⟩⟩
  · refine (h.below.trans (hb.mono h.below.size)).grown hg (Nat.le_trans h.below.size hb.size) fun k hk => ?_
    exact (hfam.own.lt k hk).1
  · simpa [rowT, flat_snoc] using hown

theorem RT.pushThread {w wr w1 w2 : World} {V V' T : Value} {done : List (List Stp)} {cur : List Stp} {vs : List Value} (h : RT w wr V T done cur vs) (hb : Below wr.heap.size wr w1)
    (hown : w2.ownsRow w.heap.size 142 1 V' (done.length + 1) (vs ++ [T])) (hg : w1.grownBy w2 V.ownBlock) (hf : Fresh w1 V V') (hn : V'.ownBlock ≠ none) :
    Below w.heap.size w w2 ∧ Fam w2 w.heap.size (rowV (done ++ [cur]).length V' (vs ++ [T]) :: rowsT (done ++ [cur]) (vs ++ [T])) := by
  have hfam := (h.fam.below hb).perm (List.Perm.swap _ _ _)
  have h1 := Fam.head (r := rowV done.length V vs) (r' := rowV (done.length + 1) V' (vs ++ [T])) hfam hg hf ⟨hown, hn⟩
  refine ⟨?_, ?_⟩
  · refine (h.below.trans (hb.mono h.below.size)).grown hg (Nat.le_trans h.below.size hb.size) fun k hk => ?_
    exact (hfam.own.lt k hk).1
  · rw [rowsT_snoc done vs cur T h.len.symm]
    have hl : (done ++ [cur]).length = done.length + 1 := by simp
    rw [hl]
    refine h1.perm (List.Perm.cons _ ?_)
    exact List.perm_append_comm (l₁ := [rowT cur T])

theorem infoStep : (Try.prog.info? 132).map (fun i => (i.zero, i.size, i.bytes)) = some (some (.agg #[.int .i64 0, .int .i64 0, .int .i64 0]), 3, 24) := by kernel_rfl
theorem infoSteps : (Try.prog.info? 142).map (fun i => (i.zero, i.size, i.bytes)) = some (some (.slice none 0 0), 1, 24) := by kernel_rfl

end Go.Proofs.Ytfacehklndapgaa
