import Derived.Test.YtfdbnilopfnifaaA2
namespace Go.Proofs.Ytfdbnilopfnifaa
open Go.RowKit

/-- Either the old block, or a block that was not there. -/
def Fresh (w : World) (v v' : Value) : Prop := v'.ownBlock = v.ownBlock ∨ ∃ g, v'.ownBlock = some g ∧ w.heap.size ≤ g

section
variable {P : Program} (w : World)
theorem run_append2 (base : Nat) (t ty e : TypeId) (i : TypeInfo) (z : Value) (size bytes : Nat) (ht : P.underlying t = some (.slice e)) (hi : P.info? e = some i) (hz : i.zero = some z)
    (hsize : i.size = size) (hby : i.bytes = bytes) (hzs : z.cells.size = size) (hsz : 0 < size)
    (v : Value) (n : Nat) (xs : List Value) (hown : w.ownsRow base e size v n xs)
    (a : Addr) (m c : Nat) (news : List Value) (hl : news.length = m * size) (hnews : ∀ j u, news[j]? = some u → w.cell? (a.add j) = some u) (h1 : ∀ u ∈ news, u.oneCell' = true)
    (h63 : n + m ≤ maxLen) (hbytes : (n + m) * bytes ≤ 140737488355328) (hbase : base ≤ w.heap.size) (hm0 : 0 < m) :
    ∃ v' w', (Builtin.append_ #[t, t] ty #[v, .slice (some a) m c]).run P w = .ok v' w' ∧ w'.ownsRow base e size v' (n + m) (xs ++ news) ∧ w.grownBy w' v.ownBlock ∧ Fresh w v v' ∧ v'.ownBlock ≠ none := by
  obtain ⟨v', w', hr, ho, hg, hn⟩ := run_append_own (P := P) w base t ty e i z size bytes ht hi hz hsize hby hzs hsz v n xs hown a m c news hl hnews h1 h63 hbytes hbase
  refine ⟨v', w', hr, ho, hg, ?_⟩
  subst hsize
  subst hby
  have hsmall : n + m ≤ 9223372036854775807 := by simp only [maxLen] at h63; omega
  rcases hown.2 with ⟨rfl, rfl⟩ | ⟨g, cap, cur, rfl, hbg, hgg, hnc, hcm, hcs, htake⟩
  · have hr2 := run_append_nil (P := P) w t ty e i z ht hi hz a m c news hl hnews hm0 (by omega) (by have hb := hbytes; simp only [Nat.zero_add] at hb; omega)
    rw [hr] at hr2
    simp only [Result.ok.injEq] at hr2
    rw [hr2.1]
    exact ⟨.inr ⟨_, rfl, Nat.le_refl _⟩, by simp [Value.ownBlock]⟩
  · by_cases hroom : n + m ≤ cap
    · have hfit : n * i.size + news.length ≤ cur.size := by rw [hl, hcs, ← Nat.add_mul]; exact Nat.mul_le_mul_right _ hroom
      have hr2 := run_append_room (P := P) w t ty e i ht hi g n cap cur hgg a m c news hl hnews h1 hroom hfit
      rw [hr] at hr2
      simp only [Result.ok.injEq] at hr2
      rw [hr2.1]
      exact ⟨.inl rfl, by simp [Value.ownBlock]⟩
    · have holds : ∀ j u, xs[j]? = some u → w.cell? ((⟨g, 0, none⟩ : Addr).add j) = some u := hown.cells (g := g) rfl
      have hr2 := run_append_grow (P := P) w t ty e i z ht hi hz ⟨g, 0, none⟩ n cap xs hown.1 holds a m c news hl hnews (by omega) (by omega) (growslice_fits (by omega) hbytes)
      rw [hr] at hr2
      simp only [Result.ok.injEq] at hr2
      rw [hr2.1]
      exact ⟨.inr ⟨_, rfl, Nat.le_refl _⟩, by simp [Value.ownBlock]⟩

/-- One element more, by append: as the library's law, with what is known of the block besides. -/
theorem wpList_append2 {ops : Array Oper} {rest : List Oper} {o : Oper} {a : Act} {Q : Exit → Act → World → Prop} (hgd : o.guard = none) (s x : Operand) (t : TypeId)
    (ho : o.op = .call { callee := .builtin .append, args := #[s, x], argTypes := #[t, t] })
    (base : Nat) (e : TypeId) (z : Value) (size bytes : Nat) (ht : P.underlying t = some (.slice e)) (hinf : (P.info? e).map (fun i => (i.zero, i.size, i.bytes)) = some (some z, size, bytes))
    (hzs : z.cells.size = size) (hsz : 0 < size)
    (v : Value) (n : Nat) (xs : List Value) (hs : a.eval s = v) (hown : w.ownsRow base e size v n xs)
    (ad : Addr) (c : Nat) (news : List Value) (hx : a.eval x = .slice (some ad) 1 c) (hl : news.length = size) (hnews : ∀ j u, news[j]? = some u → w.cell? (ad.add j) = some u) (h1 : ∀ u ∈ news, u.oneCell' = true)
    (h63 : n + 1 ≤ 1000000) (hbs : bytes ≤ 1000000) (hbase : base ≤ w.heap.size)
    (h : ∀ v' w', w'.ownsRow base e size v' (n + 1) (xs ++ news) → w.grownBy w' v.ownBlock → Fresh w v v' → v'.ownBlock ≠ none → wpList P ops Q rest (a.put o.dst v') w') : wpList P ops Q (o :: rest) a w := by
  obtain ⟨i, hi, hii⟩ := Option.map_eq_some_iff.1 hinf
  simp only [Prod.mk.injEq] at hii
  obtain ⟨hz, hsize, hby⟩ := hii
  have hbytes : (n + 1) * bytes ≤ 140737488355328 := by
    have := Nat.mul_le_mul h63 hbs
    omega
  obtain ⟨v', w', hr, h2, h3, h4, h5⟩ := run_append2 (P := P) w base t o.type e i z size bytes ht hi hz hsize hby hzs hsz v n xs hown ad 1 c news (by simpa using hl) hnews h1 (by unfold maxLen; omega) hbytes hbase (by decide)
  refine wpList_plain hgd fun K hK => ?_
  unfold Oper.wp execOp
  simp only [ho, resolve, invoke, builtin, Sem.run_bind, Sem.run_pure, Result.andThen_ok, List.map_toArray, List.map_cons, List.map_nil, hs, hx, hr]
  exact hK _ _ (h v' w' h2 h3 h4 h5)

/-- 'append(s, x)': the new element lies in the block that was laid just now. -/
theorem wpList_appendLit {ops : Array Oper} {rest : List Oper} {o : Oper} {a : Act} {Q : Exit → Act → World → Prop} (hgd : o.guard = none) (s x : Operand) (t : TypeId)
    (ho : o.op = .call { callee := .builtin .append, args := #[s, x], argTypes := #[t, t] })
    (base : Nat) (e : TypeId) (z : Value) (size bytes : Nat) (ht : P.underlying t = some (.slice e)) (hinf : (P.info? e).map (fun i => (i.zero, i.size, i.bytes)) = some (some z, size, bytes))
    (hzs : z.cells.size = size) (hsz : 0 < size)
    (v : Value) (n : Nat) (xs : List Value) (hs : a.eval s = v) (hown : w.ownsRow base e size v n xs) (cs : Array Value) (g : Nat) (hgs : w.heap.size = g)
    (hx : a.eval x = .slice (some ⟨g, 0, none⟩) 1 1) (hl : cs.size = size) (h1 : ∀ u ∈ cs.toList, u.oneCell' = true)
    (h63 : n + 1 ≤ 1000000) (hbs : bytes ≤ 1000000) (hbase : base ≤ w.heap.size)
    (h : ∀ v' w', w'.ownsRow base e size v' (n + 1) (xs ++ cs.toList) → (w.alloc (.cells cs e)).grownBy w' v.ownBlock → Fresh (w.alloc (.cells cs e)) v v' → v'.ownBlock ≠ none → wpList P ops Q rest (a.put o.dst v') w') :
    wpList P ops Q (o :: rest) a (w.alloc (.cells cs e)) := by
  subst hgs
  refine wpList_append2 (w.alloc (.cells cs e)) hgd s x t ho base e z size bytes ht hinf hzs hsz v n xs hs (hown.alloc _) ⟨w.heap.size, 0, none⟩ 1 cs.toList hx (by simpa using hl) ?_ h1 h63 hbs (by simp; omega) h
  intro j u hu
  have hadd : (⟨w.heap.size, 0, none⟩ : Addr).add j = ⟨w.heap.size, j, none⟩ := by unfold Addr.add; split <;> simp_all
  rw [hadd, cell_of_row _ _ _ _ _ _ (heap_alloc_new w (.cells cs e))]
  simpa using hu
end

/-- A row of cells that the call owns: its element type and size, the slice's value, its length, its cells. -/
structure RowD where
  e : TypeId
  size : Nat
  v : Value
  n : Nat
  xs : List Value

def RowD.at (w : World) (B : Nat) (r : RowD) : Prop := w.ownsRow B r.e r.size r.v r.n r.xs ∧ r.v.ownBlock ≠ none

/-- Rows that the call owns, each in a block of its own. -/
def Fam (w : World) (B : Nat) (fam : List RowD) : Prop :=
  (∀ r ∈ fam, r.at w B) ∧ fam.Pairwise (fun a b => a.v.ownBlock ≠ b.v.ownBlock)

theorem Fam.perm {w : World} {B : Nat} {f f' : List RowD} (h : Fam w B f) (hp : f.Perm f') : Fam w B f' :=
  ⟨fun r hr => h.1 r (hp.mem_iff.2 hr), (hp.pairwise_iff (fun hab => Ne.symm hab)).1 h.2⟩

theorem RowD.at.lt {w : World} {B : Nat} {r : RowD} (h : r.at w B) : ∃ k, r.v.ownBlock = some k ∧ B ≤ k ∧ k < w.heap.size := by
  obtain ⟨ho, hn⟩ := h
  cases hk : r.v.ownBlock with
  | none => exact absurd hk hn
  | some k => exact ⟨k, rfl, ho.lt k hk⟩

theorem RowD.at.kept {w w' : World} {B : Nat} {r : RowD} {row : Option Nat} (h : r.at w B) (hg : w.grownBy w' row) (hne : r.v.ownBlock ≠ row) : r.at w' B :=
  ⟨h.1.kept hg (.inr hne), h.2⟩

theorem RowD.at.form {w : World} {B : Nat} {r : RowD} (h : r.at w B) : ∃ g cap, r.v = .slice (some ⟨g, 0, none⟩) r.n cap ∧ B ≤ g ∧ g < w.heap.size := by
  obtain ⟨ho, hn⟩ := h
  rcases ho.2 with ⟨h1, _⟩ | ⟨g, cap, cur, hv, hb, hg, _⟩
  · rw [h1] at hn; exact absurd rfl hn
  · exact ⟨g, cap, hv, hb, (Array.getElem?_eq_some_iff.1 hg).1⟩

/-- The first row of the family is written (and may have moved), the others stand. -/
theorem Fam.head {w w' : World} {B : Nat} {r r' : RowD} {f : List RowD} (h : Fam w B (r :: f)) (hg : w.grownBy w' r.v.ownBlock) (hf : Fresh w r.v r'.v) (ha : r'.at w' B) : Fam w' B (r' :: f) := by
  obtain ⟨h1, h2⟩ := h
  rw [List.pairwise_cons] at h2
  refine ⟨fun x hx => ?_, ?_⟩
  · rcases List.mem_cons.1 hx with rfl | hx
    · exact ha
    · exact (h1 x (List.mem_cons_of_mem _ hx)).kept hg (Ne.symm (h2.1 x hx))
  · rw [List.pairwise_cons]
    refine ⟨fun x hx => ?_, h2.2⟩
    rcases hf with e | ⟨g, e, hgw⟩
    · rw [e]; exact h2.1 x hx
    · obtain ⟨k, hk, _, hlt⟩ := (h1 x (List.mem_cons_of_mem _ hx)).lt
      rw [e, hk]
      intro hh
      simp only [Option.some.injEq] at hh
      omega

/-- Worlds that differ by new blocks alone. -/
theorem Fam.kept {w w' : World} {B : Nat} {f : List RowD} (h : Fam w B f) (hg : w.grownBy w' none) : Fam w' B f :=
  ⟨fun r hr => (h.1 r hr).kept hg (h.1 r hr).2, h.2⟩
theorem Fam.alloc {w : World} {B : Nat} {f : List RowD} (h : Fam w B f) (o : Obj) : Fam (w.alloc o) B f := h.kept (World.grownBy_alloc w o none)
theorem grownBy_of_below {w w' : World} (h : Below w.heap.size w w') : w.grownBy w' none := ⟨h.os, h.tape, h.output, h.size, fun k hk _ => h.block k hk⟩
theorem Fam.below {w w' : World} {B : Nat} {f : List RowD} (h : Fam w B f) (hb : Below w.heap.size w w') : Fam w' B f := h.kept (grownBy_of_below hb)

/-- A new row, of literal cells. -/
theorem Fam.lit {w : World} {B : Nat} {f : List RowD} (h : Fam w B f) (hB : B ≤ w.heap.size) (e : TypeId) (size : Nat) (cs : Array Value) (n : Nat) (hm : n ≤ maxLen) (hs : cs.size = n * size) :
    Fam (w.alloc (.cells cs e)) B (⟨e, size, .slice (some ⟨w.heap.size, 0, none⟩) n n, n, cs.toList⟩ :: f) := by
  have h' := h.alloc (.cells cs e)
  refine ⟨fun x hx => ?_, ?_⟩
  · rcases List.mem_cons.1 hx with rfl | hx
    · exact ⟨World.ownsRow_lit w cs n hB hm hs, by simp [Value.ownBlock]⟩
    · exact h'.1 x hx
  · rw [List.pairwise_cons]
    refine ⟨fun x hx => ?_, h'.2⟩
    obtain ⟨k, hk, _, hlt⟩ := (h.1 x hx).lt
    rw [hk]
    simp only [Value.ownBlock]
    intro hh
    simp only [Option.some.injEq] at hh
    omega

theorem Fam.tail {w : World} {B : Nat} {r : RowD} {f : List RowD} (h : Fam w B (r :: f)) : Fam w B f :=
  ⟨fun x hx => h.1 x (List.mem_cons_of_mem _ hx), (List.pairwise_cons.1 h.2).2⟩
theorem Fam.own {w : World} {B : Nat} {r : RowD} {f : List RowD} (h : Fam w B (r :: f)) : w.ownsRow B r.e r.size r.v r.n r.xs := (h.1 r (List.mem_cons_self ..)).1

end Go.Proofs.Ytfdbnilopfnifaa
