import Derived.Test.YtdfndcbakcmgiabDoorA1
namespace Go.Proofs.YtdfndcbakcmgiabDoor
open Go.RowKit

/-- Either the old block, or a block that was not there. -/
def Fresh (w : World) (v v' : Value) : Prop := v'.ownBlock = v.ownBlock ∨ ∃ g, v'.ownBlock = some g ∧ w.heap.size ≤ g

section
variable {P : Program} (w : World)
theorem run_append2 (base : Nat) (t ty e : TypeId) (i : TypeInfo) (z : Value) (size bytes : Nat) (ht : P.underlying t = some (.slice e)) (hi : P.info? e = some i) (hz : i.zero = some z)
    (hsize : i.size = size) (hby : i.bytes = bytes) (hzs : z.cells.size = size) (hsz : 0 < size)
    (v : Value) (n : Nat) (xs : List Value) (hown : w.ownsRow base e size v n xs)
    (a : Addr) (m c : Nat) (news : List Value) (hl : news.length = m * size) (hnews : ∀ j u, news[j]? = some u → w.cell? (a.add j) = some u) (h1 : ∀ u ∈ news, u.oneCell' = true)
    (h63 : n + m ≤ maxLen) (hbytes : (n + m) * bytes ≤ 140737488355328) (hbase : base ≤ w.heap.size) (hm0 : 0 < m) :
    ∃ v' w', (Builtin.append_ #[t, t] ty #[v, .slice (some a) m c]).run P w = .ok v' w' ∧ w'.ownsRow base e size v' (n + m) (xs ++ news) ∧ w.grownBy w' v.ownBlock ∧ Fresh w v v' ∧ v'.ownBlock ≠ none := by
  obtain ⟨v', w', hr, ho, hg, hn⟩ := run_append_own (P := P) w base t ty e i z size bytes ht hi hz hsize hby hzs hsz v n xs hown a m c news hl hnews h1 h63 hbytes hbase
  refine ⟨v', w', hr, ho, hg, ?_⟩
  subst hsize
  subst hby
  have hsmall : n + m ≤ 9223372036854775807 := by simp only [maxLen] at h63; omega
  rcases hown.2 with ⟨rfl, rfl⟩ | ⟨g, cap, cur, rfl, hbg, hgg, hnc, hcm, hcs, htake⟩
  · have hr2 := run_append_nil (P := P) w t ty e i z ht hi hz a m c news hl hnews hm0 (by omega) (by have hb := hbytes; simp only [Nat.zero_add] at hb; omega)
    rw [hr] at hr2
    simp only [Result.ok.injEq] at hr2
    rw [hr2.1]
    exact ⟨.inr ⟨_, rfl, Nat.le_refl _⟩, by simp [Value.ownBlock]⟩
  · by_cases hroom : n + m ≤ cap
    · have hfit : n * i.size + news.length ≤ cur.size := by rw [hl, hcs, ← Nat.add_mul]; exact Nat.mul_le_mul_right _ hroom
      have hr2 := run_append_room (P := P) w t ty e i ht hi g n cap cur hgg a m c news hl hnews h1 hroom hfit
      rw [hr] at hr2
      simp only [Result.ok.injEq] at hr2
      rw [hr2.1]
      exact ⟨.inl rfl, by simp [Value.ownBlock]⟩
    · have holds : ∀ j u, xs[j]? = some u → w.cell? ((⟨g, 0, none⟩ : Addr).add j) = some u := hown.cells (g := g) rfl
      have hr2 := run_append_grow (P := P) w t ty e i z ht hi hz ⟨g, 0, none⟩ n cap xs hown.1 holds a m c news hl hnews (by omega) (by omega) (growslice_fits (by omega) hbytes)
      rw [hr] at hr2
      simp only [Result.ok.injEq] at hr2
      rw [hr2.1]
      exact ⟨.inr ⟨_, rfl, Nat.le_refl _⟩, by simp [Value.ownBlock]⟩

/-- One element more, by append: as the library's law, with what is known of the block besides. -/
theorem wpList_append2 {ops : Array Oper} {rest : List Oper} {o : Oper} {a : Act} {Q : Exit → Act → World → Prop} (hgd : o.guard = none) (s x : Operand) (t : TypeId)
    (ho : o.op = .call { callee := .builtin .append, args := #[s, x], argTypes := #[t, t] })
    (base : Nat) (e : TypeId) (z : Value) (size bytes : Nat) (ht : P.underlying t = some (.slice e)) (hinf : (P.info? e).map (fun i => (i.zero, i.size, i.bytes)) = some (some z, size, bytes))
    (hzs : z.cells.size = size) (hsz : 0 < size)
    (v : Value) (n : Nat) (xs : List Value) (hs : a.eval s = v) (hown : w.ownsRow base e size v n xs)
    (ad : Addr) (c : Nat) (news : List Value) (hx : a.eval x = .slice (some ad) 1 c) (hl : news.length = size) (hnews : ∀ j u, news[j]? = some u → w.cell? (ad.add j) = some u) (h1 : ∀ u ∈ news, u.oneCell' = true)
    (h63 : n + 1 ≤ 1000000) (hbs : bytes ≤ 1000000) (hbase : base ≤ w.heap.size)
    (h : ∀ v' w', w'.ownsRow base e size v' (n + 1) (xs ++ news) → w.grownBy w' v.ownBlock → Fresh w v v' → v'.ownBlock ≠ none → wpList P ops Q rest (a.put o.dst v') w') : wpList P ops Q (o :: rest) a w := by
  obtain ⟨i, hi, hii⟩ := Option.map_eq_some_iff.1 hinf
  simp only [Prod.mk.injEq] at hii
  obtain ⟨hz, hsize, hby⟩ := hii
  have hbytes : (n + 1) * bytes ≤ 140737488355328 := by
    have := Nat.mul_le_mul h63 hbs
    omega
  obtain ⟨v', w', hr, h2, h3, h4, h5⟩ := run_append2 (P := P) w base t o.type e i z size bytes ht hi hz hsize hby hzs hsz v n xs hown ad 1 c news (by simpa using hl) hnews h1 (by unfold maxLen; omega) hbytes hbase (by decide)
  refine wpList_plain hgd fun K hK => ?_
  unfold Oper.wp execOp
  simp only [ho, resolve, invoke, builtin, Sem.run_bind, Sem.run_pure, Result.andThen_ok, List.map_toArray, List.map_cons, List.map_nil, hs, hx, hr]
  exact hK _ _ (h v' w' h2 h3 h4 h5)

/-- 'append(s, x)': the new element lies in the block that was laid just now. -/
theorem wpList_appendLit {ops : Array Oper} {rest : List Oper} {o : Oper} {a : Act} {Q : Exit → Act → World → Prop} (hgd : o.guard = none) (s x : Operand) (t : TypeId)
    (ho : o.op = .call { callee := .builtin .append, args := #[s, x], argTypes := #[t, t] })
    (base : Nat) (e : TypeId) (z : Value) (size bytes : Nat) (ht : P.underlying t = some (.slice e)) (hinf : (P.info? e).map (fun i => (i.zero, i.size, i.bytes)) = some (some z, size, bytes))
    (hzs : z.cells.size = size) (hsz : 0 < size)
    (v : Value) (n : Nat) (xs : List Value) (hs : a.eval s = v) (hown : w.ownsRow base e size v n xs) (cs : Array Value) (g : Nat) (hgs : w.heap.size = g)
    (hx : a.eval x = .slice (some ⟨g, 0, none⟩) 1 1) (hl : cs.size = size) (h1 : ∀ u ∈ cs.toList, u.oneCell' = true)
    (h63 : n + 1 ≤ 1000000) (hbs : bytes ≤ 1000000) (hbase : base ≤ w.heap.size)
    (h : ∀ v' w', w'.ownsRow base e size v' (n + 1) (xs ++ cs.toList) → (w.alloc (.cells cs e)).grownBy w' v.ownBlock → Fresh (w.alloc (.cells cs e)) v v' → v'.ownBlock ≠ none → wpList P ops Q rest (a.put o.dst v') w') :
    wpList P ops Q (o :: rest) a (w.alloc (.cells cs e)) := by
  subst hgs
  refine wpList_append2 (w.alloc (.cells cs e)) hgd s x t ho base e z size bytes ht hinf hzs hsz v n xs hs (hown.alloc _) ⟨w.heap.size, 0, none⟩ 1 cs.toList hx (by simpa using hl) ?_ h1 h63 hbs (by simp; omega) h
  intro j u hu
  have hadd : (⟨w.heap.size, 0, none⟩ : Addr).add j = ⟨w.heap.size, j, none⟩ := by unfold Addr.add; split <;> simp_all
  rw [hadd, cell_of_row _ _ _ _ _ _ (heap_alloc_new w (.cells cs e))]
  simpa using hu
end

/-- A row of cells that the call owns: its element type and size, the slice's value, its length, its cells. -/
structure RowD where
  e : TypeId
  size : Nat
  v : Value
  n : Nat
  xs : List Value

def RowD.at (w : World) (B : Nat) (r : RowD) : Prop := w.ownsRow B r.e r.size r.v r.n r.xs ∧ r.v.ownBlock ≠ none

/-- Rows that the call owns, each in a block of its own. -/
def Fam (w : World) (B : Nat) (fam : List RowD) : Prop :=
  (∀ r ∈ fam, r.at w B) ∧ fam.Pairwise (fun a b => a.v.ownBlock ≠ b.v.ownBlock)

theorem Fam.perm {w : World} {B : Nat} {f f' : List RowD} (h : Fam w B f) (hp : f.Perm f') : Fam w B f' :=
  ⟨fun r hr => h.1 r (hp.mem_iff.2 hr), (hp.pairwise_iff (fun hab => Ne.symm hab)).1 h.2⟩

theorem RowD.at.lt {w : World} {B : Nat} {r : RowD} (h : r.at w B) : ∃ k, r.v.ownBlock = some k ∧ B ≤ k ∧ k < w.heap.size := by
  obtain ⟨ho, hn⟩ := h
  cases hk : r.v.ownBlock with
  | none => exact absurd hk hn
  | some k => exact ⟨k, rfl, ho.lt k hk⟩

theorem RowD.at.kept {w w' : World} {B : Nat} {r : RowD} {row : Option Nat} (h : r.at w B) (hg : w.grownBy w' row) (hne : r.v.ownBlock ≠ row) : r.at w' B :=
  ⟨h.1.kept hg (.inr hne), h.2⟩

theorem RowD.at.form {w : World} {B : Nat} {r : RowD} (h : r.at w B) : ∃ g cap, r.v = .slice (some ⟨g, 0, none⟩) r.n cap ∧ B ≤ g ∧ g < w.heap.size := by
  obtain ⟨ho, hn⟩ := h
  rcases ho.2 with ⟨h1, _⟩ | ⟨g, cap, cur, hv, hb, hg, _⟩
  · rw [h1] at hn; exact absurd rfl hn
  · exact ⟨g, cap, hv, hb, (Array.getElem?_eq_some_iff.1 hg).1⟩

/-- The first row of the family is written (and may have moved), the others stand. -/
theorem Fam.head {w w' : World} {B : Nat} {r r' : RowD} {f : List RowD} (h : Fam w B (r :: f)) (hg : w.grownBy w' r.v.ownBlock) (hf : Fresh w r.v r'.v) (ha : r'.at w' B) : Fam w' B (r' :: f) := by
  obtain ⟨h1, h2⟩ := h
  rw [List.pairwise_cons] at h2
  refine ⟨fun x hx => ?_, ?_⟩
  · rcases List.mem_cons.1 hx with rfl | hx
    · exact ha
    · exact (h1 x (List.mem_cons_of_mem _ hx)).kept hg (Ne.symm (h2.1 x hx))
  · rw [List.pairwise_cons]
    refine ⟨fun x hx => ?_, h2.2⟩
    rcases hf with e | ⟨g, e, hgw⟩
    · rw [e]; exact h2.1 x hx
    · obtain ⟨k, hk, _, hlt⟩ := (h1 x (List.mem_cons_of_mem _ hx)).lt
      rw [e, hk]
      intro hh
      simp only [Option.some.injEq] at hh
      omega

/-- Worlds that differ by new blocks alone. -/
theorem Fam.kept {w w' : World} {B : Nat} {f : List RowD} (h : Fam w B f) (hg : w.grownBy w' none) : Fam w' B f :=
  ⟨fun r hr => (h.1 r hr).kept hg (h.1 r hr).2, h.2⟩
theorem Fam.alloc {w : World} {B : Nat} {f : List RowD} (h : Fam w B f) (o : Obj) : Fam (w.alloc o) B f := h.kept (World.grownBy_alloc w o none)
theorem grownBy_of_below {w w' : World} (h : Below w.heap.size w w') : w.grownBy w' none := ⟨h.os, h.tape, h.output, h.size, fun k hk _ => h.block k hk⟩
theorem Fam.below {w w' : World} {B : Nat} {f : List RowD} (h : Fam w B f) (hb : Below w.heap.size w w') : Fam w' B f := h.kept (grownBy_of_below hb)

/-- A new row, of literal cells. -/
theorem Fam.lit {w : World} {B : Nat} {f : List RowD} (h : Fam w B f) (hB : B ≤ w.heap.size) (e : TypeId) (size : Nat) (cs : Array Value) (n : Nat) (hm : n ≤ maxLen) (hs : cs.size = n * size) :
    Fam (w.alloc (.cells cs e)) B (⟨e, size, .slice (some ⟨w.heap.size, 0, none⟩) n n, n, cs.toList⟩ :: f) := by
  have h' := h.alloc (.cells cs e)
  refine ⟨fun x hx => ?_, ?_⟩
  · rcases List.mem_cons.1 hx with rfl | hx
    · exact ⟨World.ownsRow_lit w cs n hB hm hs, by simp [Value.ownBlock]⟩
    · exact h'.1 x hx
  · rw [List.pairwise_cons]
    refine ⟨fun x hx => ?_, h'.2⟩
    obtain ⟨k, hk, _, hlt⟩ := (h.1 x hx).lt
    rw [hk]
    simp only [Value.ownBlock]
    intro hh
    simp only [Option.some.injEq] at hh
    omega

theorem Fam.tail {w : World} {B : Nat} {r : RowD} {f : List RowD} (h : Fam w B (r :: f)) : Fam w B f :=
  ⟨fun x hx => h.1 x (List.mem_cons_of_mem _ hx), (List.pairwise_cons.1 h.2).2⟩
theorem Fam.own {w : World} {B : Nat} {r : RowD} {f : List RowD} (h : Fam w B (r :: f)) : w.ownsRow B r.e r.size r.v r.n r.xs := (h.1 r (List.mem_cons_self ..)).1

end Go.Proofs.YtdfndcbakcmgiabDoor
namespace Go.Proofs.YtdfndcbakcmgiabDoor
open Go.RowKit

theorem readNamed_next (s : ByteArray) (k : Nat) (kind f l : Int) (h : (readNamed s k kind f l).2.2 = true) : (readNamed s k kind f l).2.1 = k + 1 := by
  unfold readNamed at h ⊢
  split <;> simp_all
theorem readSkip_next (s : ByteArray) (k : Nat) (h : (readSkip s k).2.2 = true) : (readSkip s k).2.1 = k + 2 := by
  unfold readSkip at h ⊢
  split <;> simp_all
  split <;> simp_all
theorem readStep_next (s : ByteArray) (k : Nat) (h : (readStep s k).2.2 = true) : k < (readStep s k).2.1 ∧ (readStep s k).2.1 ≤ k + 3 := by
  unfold readStep at h ⊢
  repeat' split
  all_goals simp only [*, if_true, if_false] at h
  all_goals first
    | (simp; done)
    | (have := readNamed_next _ _ _ _ _ h; omega)
    | (have := readSkip_next _ _ h; omega)
    | (simp at h; done)

/-- The threads of a text, or the place of its first wrong byte. -/
def rtLoop (s : ByteArray) (k : Nat) (done : List (List Stp)) (cur : List Stp) : List (List Stp) ⊕ Nat :=
  if k < s.size then
    if byteI s k = 59 then rtLoop s (k + 1) (done ++ [cur]) []
    else if _h : (readStep s k).2.2 = true then rtLoop s (readStep s k).2.1 done (cur ++ [(readStep s k).1])
    else .inr (readStep s k).2.1
  else .inl (done ++ [cur])
termination_by s.size - k
decreasing_by
  · omega
  · have := readStep_next s k _h; omega

def stepCells (x : Stp) : List Value := [.int .i64 x.kind, .int .i64 x.which, .int .i64 x.count]
def rowT (l : List Stp) (v : Value) : RowD := ⟨86, 3, v, l.length, l.flatMap stepCells⟩
def rowsT : List (List Stp) → List Value → List RowD
  | l :: ls, v :: vs => rowT l v :: rowsT ls vs
  | _, _ => []
def rowV (n : Nat) (v : Value) (vs : List Value) : RowD := ⟨122, 1, v, n, vs⟩

theorem rowsT_snoc : ∀ (ls : List (List Stp)) (vs : List Value) (l : List Stp) (v : Value), ls.length = vs.length → rowsT (ls ++ [l]) (vs ++ [v]) = rowsT ls vs ++ [rowT l v]
  | [], [], _, _, _ => rfl
  | a :: ls, b :: vs, l, v, h => by
    simp only [List.cons_append, rowsT]
    rw [rowsT_snoc ls vs l v (by simpa using h)]
  | [], _ :: _, _, _, h => by simp at h
  | _ :: _, [], _, _, h => by simp at h

theorem flat_snoc (l : List Stp) (x : Stp) : (l ++ [x]).flatMap stepCells = l.flatMap stepCells ++ stepCells x := by simp

/-- What holds at each round's head in readThreads. -/
structure RT (w wr : World) (V T : Value) (done : List (List Stp)) (cur : List Stp) (vs : List Value) : Prop where
  below : Below w.heap.size w wr
  len : vs.length = done.length
  fam : Fam wr w.heap.size (rowT cur T :: rowV done.length V vs :: rowsT done vs)

theorem RT.formT {w wr : World} {V T : Value} {done : List (List Stp)} {cur : List Stp} {vs : List Value} (h : RT w wr V T done cur vs) : ∃ g cap, T = .slice (some ⟨g, 0, none⟩) cur.length cap ∧ g < wr.heap.size := by
  obtain ⟨g, cap, h1, _, h2⟩ := (h.fam.1 _ (List.mem_cons_self ..)).form
  exact ⟨g, cap, h1, h2⟩
theorem RT.formV {w wr : World} {V T : Value} {done : List (List Stp)} {cur : List Stp} {vs : List Value} (h : RT w wr V T done cur vs) : ∃ g cap, V = .slice (some ⟨g, 0, none⟩) done.length cap ∧ g < wr.heap.size := by
  obtain ⟨g, cap, h1, _, h2⟩ := (h.fam.1 _ (List.mem_cons_of_mem _ (List.mem_cons_self ..))).form
  exact ⟨g, cap, h1, h2⟩
theorem RT.ownT {w wr : World} {V T : Value} {done : List (List Stp)} {cur : List Stp} {vs : List Value} (h : RT w wr V T done cur vs) : wr.ownsRow w.heap.size 86 3 T cur.length (cur.flatMap stepCells) := h.fam.own
theorem RT.ownV {w wr : World} {V T : Value} {done : List (List Stp)} {cur : List Stp} {vs : List Value} (h : RT w wr V T done cur vs) : wr.ownsRow w.heap.size 122 1 V done.length vs := h.fam.tail.own
theorem RT.start (w : World) : RT w ((w.alloc (Obj.cells #[] 122)).alloc (Obj.cells #[] 86)) (Value.slice (some ⟨w.heap.size, 0, none⟩) 0 0) (Value.slice (some ⟨w.heap.size + 1, 0, none⟩) 0 0) [] [] [] := by
  refine ⟨((Below.refl _ w).alloc (Nat.le_refl _) _).alloc (by simp) _, rfl, ?_⟩
  have h0 : Fam w w.heap.size [] := ⟨by simp, List.Pairwise.nil⟩
  have h1 := h0.lit (Nat.le_refl _) 122 1 #[] 0 (Nat.zero_le _) rfl
  have h2 := h1.lit (by simp) 86 3 #[] 0 (Nat.zero_le _) rfl
  simpa [rowT, rowV, rowsT] using h2
theorem RT.next {w w2 : World} {V T : Value} {done : List (List Stp)} {cur : List Stp} {vs : List Value}
    (hb : Below w.heap.size w w2) (hl : vs.length = done.length) (hf : Fam w2 w.heap.size (rowV (done ++ [cur]).length V (vs ++ [T]) :: rowsT (done ++ [cur]) (vs ++ [T]))) :
    RT w (w2.alloc (Obj.cells #[] 86)) V (Value.slice (some ⟨w2.heap.size, 0, none⟩) 0 0) (done ++ [cur]) [] (vs ++ [T]) := by
  refine ⟨hb.alloc hb.size _, by simp [hl], ?_⟩
  have h2 := hf.lit hb.size 86 3 #[] 0 (Nat.zero_le _) rfl
  simpa [rowT, rowV, rowsT] using h2
theorem RT.below1 {w wr w1 : World} {V T : Value} {done : List (List Stp)} {cur : List Stp} {vs : List Value} (h : RT w wr V T done cur vs) (hb : Below wr.heap.size wr w1) : RT w w1 V T done cur vs :=
  ⟨h.below.trans (hb.mono h.below.size), h.len, h.fam.below hb⟩
theorem RT.pushStep {w wr w1 w2 : World} {V T T' : Value} {done : List (List Stp)} {cur : List Stp} {vs : List Value} {x : Stp} (h : RT w wr V T done cur vs) (hb : Below wr.heap.size wr w1)
    (hown : w2.ownsRow w.heap.size 86 3 T' (cur.length + 1) (cur.flatMap stepCells ++ stepCells x)) (hg : w1.grownBy w2 T.ownBlock) (hf : Fresh w1 T T') (hn : T'.ownBlock ≠ none) : RT w w2 V T' done (cur ++ [x]) vs := by
  have hfam := h.fam.below hb
  refine ⟨?_, h.len, Fam.head (r := rowT cur T) (r' := rowT (cur ++ [x]) T') hfam hg hf ⟨?_, hn⟩⟩
  · refine (h.below.trans (hb.mono h.below.size)).grown hg (Nat.le_trans h.below.size hb.size) fun k hk => ?_
    exact (hfam.own.lt k hk).1
  · simpa [rowT, flat_snoc] using hown

theorem RT.pushThread {w wr w1 w2 : World} {V V' T : Value} {done : List (List Stp)} {cur : List Stp} {vs : List Value} (h : RT w wr V T done cur vs) (hb : Below wr.heap.size wr w1)
    (hown : w2.ownsRow w.heap.size 122 1 V' (done.length + 1) (vs ++ [T])) (hg : w1.grownBy w2 V.ownBlock) (hf : Fresh w1 V V') (hn : V'.ownBlock ≠ none) :
    Below w.heap.size w w2 ∧ Fam w2 w.heap.size (rowV (done ++ [cur]).length V' (vs ++ [T]) :: rowsT (done ++ [cur]) (vs ++ [T])) := by
  have hfam := (h.fam.below hb).perm (List.Perm.swap _ _ _)
  have h1 := Fam.head (r := rowV done.length V vs) (r' := rowV (done.length + 1) V' (vs ++ [T])) hfam hg hf ⟨hown, hn⟩
  refine ⟨?_, ?_⟩
  · refine (h.below.trans (hb.mono h.below.size)).grown hg (Nat.le_trans h.below.size hb.size) fun k hk => ?_
    exact (hfam.own.lt k hk).1
  · rw [rowsT_snoc done vs cur T h.len.symm]
    have hl : (done ++ [cur]).length = done.length + 1 := by simp
    rw [hl]
    refine h1.perm (List.Perm.cons _ ?_)
    exact List.perm_append_comm (l₁ := [rowT cur T])

theorem infoStep : (Tryd.prog.info? 86).map (fun i => (i.zero, i.size, i.bytes)) = some (some (.agg #[.int .i64 0, .int .i64 0, .int .i64 0]), 3, 24) := by kernel_rfl
theorem infoSteps : (Tryd.prog.info? 122).map (fun i => (i.zero, i.size, i.bytes)) = some (some (.slice none 0 0), 1, 24) := by kernel_rfl

end Go.Proofs.YtdfndcbakcmgiabDoor
namespace Go.Proofs.YtdfndcbakcmgiabDoor
open Go.RowKit

set_option maxHeartbeats 2000000 in
set_option maxRecDepth 100000 in
theorem readThreads_any (s : ByteArray) (w : World) (hs : s.size ≤ 160) :
    Calls Tryd.prog 32 #[.string s] w fun e w' => Below w.heap.size w w' ∧
      ((∃ L V vs, rtLoop s 0 [] [] = .inl L ∧ e = .returned (.tuple #[V, .int .i64 (-1)]) ∧ vs.length = L.length ∧ Fam w' w.heap.size (rowV L.length V vs :: rowsT L vs)) ∨
       (∃ p : Nat, rtLoop s 0 [] [] = .inr p ∧ e = .returned (.tuple #[.slice none 0 0, .int .i64 p]))) := by
  have hmx : s.size ≤ maxLen := by unfold maxLen; omega
  go_enter Tryd.func32, Tryd.ntmps32
  go_wp2
  go_loopw [4, 5, 6] (fun V T i wr => ∃ (k : Nat) (done : List (List Stp)) (cur : List Stp) (vs : List Value), k ≤ s.size + 3 ∧ i = .int .i64 k ∧ done.length + cur.length ≤ k ∧
      Hid (rtLoop s 0 [] [] = rtLoop s k done cur) ∧ RT w wr V T done cur vs)
    (fun _ _ i _ => s.size + 3 - (intOf i).toNat)
  case atStart =>
    exact ⟨0, [], [], [], by omega, rfl, by simp, rfl, RT.start w⟩
  case round =>
    obtain ⟨k, done, cur, vs, hk, rfl, hlen, hh, R⟩ := hrel
    obtain ⟨gT, cT, hT, hgT⟩ := R.formT
    obtain ⟨gV, cV, hV, hgV⟩ := R.formV
    subst hT hV
    by_cases hlt : k < s.size
    · by_cases hsemi : byteI s k = 59
      · have hb : ((s[k].toNat : Int) == 59) = true := by rw [byteI_in hlt]; simpa using hsemi
        go_wp2_with (at_builtin; go_loud (refine wpList_appendLit _ rfl _ _ 58 rfl w.heap.size 122 (.slice none 0 0) 1 24 Tryd.underlying58 infoSteps rfl (by decide) _ _ _ rfl R.ownV _ _ rfl rfl rfl ?c2 ?c3 ?c4 ?c5 ?_))
        case c2 => rfl
        case c3 => omega
        case c4 => omega
        case c5 => exact R.below.size
        intro V' w2 hown hg hf hn
        obtain ⟨hB2, hF2⟩ := R.pushThread ((Below.refl _ _).alloc (Nat.le_refl _) _) hown hg hf hn
        have R2 := RT.next hB2 R.len hF2
        clear hown hg hf hn R
        go_wp2
        go_roundw
        case rel =>
          refine ⟨k + 1, done ++ [cur], [], vs ++ [.slice (some ⟨gT, 0, none⟩) cur.length cT], by omega, by go_num, by simp; omega, ?_, R2⟩
          rw [Hid, hh.out, rtLoop, if_pos hlt, if_pos hsemi]
        case measure => simp [intOf]; omega
      · have hb : ((s[k].toNat : Int) == 59) = false := by rw [byteI_in hlt]; simpa using hsemi
        by_cases hok : (readStep s k).2.2 = true
        · have hnx := readStep_next s k hok
          have hstep := readStep_any s k wr hmx (by omega)
          have HH : Hid (rtLoop s 0 [] [] = rtLoop s (readStep s k).2.1 done (cur ++ [(readStep s k).1])) := by
            rw [Hid, hh.out, rtLoop, if_pos hlt, if_neg hsemi, dif_pos hok]
          generalize readStep s k = r at hok hnx hstep HH
          obtain ⟨x, nx, ok⟩ := r
          simp only at hok hnx HH
          subst hok
          clear hh hsemi
          go_wp2_with (first
            | (go_at_call 49; refine hstep.mono ?_; rintro e w1 ⟨he, hb1⟩; rw [readV] at he; subst he; clear hstep)
            | (at_builtin; go_loud (refine wpList_appendLit _ rfl _ _ 122 rfl w.heap.size 86 (.agg #[.int .i64 0, .int .i64 0, .int .i64 0]) 3 24 Tryd.underlying122 infoStep rfl (by decide) _ _ _ rfl ((R.below1 hb1).ownT.alloc _) _ (w1.heap.size + 1) (by simp) rfl rfl ?c2 ?c3 ?c4 ?c5 ?_)))
          case c2 => exact ⟨rfl, rfl, rfl⟩
          case c3 => omega
          case c4 => omega
          case c5 => have := (R.below1 hb1).below.size; simp; omega
          intro T' w2 hown hg hf hn
          have R2 := R.pushStep (x := x) (((hb1.alloc hb1.size _).alloc (by have := hb1.size; simp; omega) _)) hown hg hf hn
          clear hown hg hf hn R hb1
          go_wp2
          go_roundw
          case rel => exact ⟨nx, done, cur ++ [x], vs, by omega, rfl, by simp; omega, HH, R2⟩
          case measure => simp [intOf]; omega
        · have hstep := readStep_any s k wr hmx (by omega)
          have HH : Hid (rtLoop s 0 [] [] = .inr (readStep s k).2.1) := by
            rw [Hid, hh.out, rtLoop, if_pos hlt, if_neg hsemi, dif_neg hok]
          generalize readStep s k = r at hok hstep HH
          obtain ⟨x, nx, ok⟩ := r
          simp only [Bool.not_eq_true] at hok HH
          subst hok
          clear hh hsemi
          go_wp2_with (go_at_call 49; refine hstep.mono ?_; rintro e w1 ⟨he, hb1⟩; rw [readV] at he; subst he; clear hstep)
          go_ret2
          exact ⟨((R.below1 hb1).below.alloc (R.below1 hb1).below.size _), .inr ⟨nx, HH.out, rfl⟩⟩
    · go_wp2_with (at_builtin; go_loud (refine wpList_appendLit _ rfl _ _ 58 rfl w.heap.size 122 (.slice none 0 0) 1 24 Tryd.underlying58 infoSteps rfl (by decide) _ _ _ rfl R.ownV _ _ rfl rfl rfl ?c2 ?c3 ?c4 ?c5 ?_))
      case c2 => rfl
      case c3 => omega
      case c4 => omega
      case c5 => exact R.below.size
      intro V' w2 hown hg hf hn
      obtain ⟨hB2, hF2⟩ := R.pushThread ((Below.refl _ _).alloc (Nat.le_refl _) _) hown hg hf hn
      have hl := R.len
      clear hown hg hf hn R
      go_wp2
      go_ret2
      refine ⟨hB2, .inl ⟨done ++ [cur], V', vs ++ [.slice (some ⟨gT, 0, none⟩) cur.length cT], ?_, rfl, by simp [hl], hF2⟩⟩
      rw [hh.out, rtLoop, if_neg hlt]
end Go.Proofs.YtdfndcbakcmgiabDoor
