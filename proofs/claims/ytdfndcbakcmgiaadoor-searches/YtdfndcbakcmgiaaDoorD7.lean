import Derived.Test.YtdfndcbakcmgiaaDoorD6
import Derived.Deep.RegionLaw
namespace Go.Proofs.YtdfndcbakcmgiaaDoor
open Go.RowKit
attribute [local go_sem ↓] Go.wp_at_zero Go.wp_at_succ

/-- The family with the struct's six cells apart. -/
def famY (p : Nat) (xs : List Value) (W : Wd) (v : Six) (inner : List Value) : List RowD :=
  ⟨47, 1, .slice (some ⟨p, 0, none⟩) 6 6, 6, xs⟩ ::
  ⟨4, 1, v.B, W.born.length, W.born.map Value.bool⟩ ::
  ⟨3, 1, v.L, W.place.length, placeCells W.place⟩ ::
  ⟨9, 1, v.H, W.has.length, hasCells W.has⟩ ::
  ⟨4, 1, v.S, W.set.length, W.set.map Value.bool⟩ ::
  ⟨89, 4, v.G, W.log.length, W.log.flatMap evCells⟩ ::
  ⟨35, 1, v.P, W.prog.length, inner⟩ :: rowsS W.prog inner
def Six.cells (v : Six) : List Value := [v.P, v.B, v.L, v.H, v.S, v.G]

theorem Fams.putP {w : World} {B p : Nat} {xs : List Value} {W : Wd} {v : Six} {inner : List Value} (hf : Fams w B (famY p xs W v inner)) (j : Nat) (y : Value) : Fams (w.setCell ⟨p, j, none⟩ y) B (famY p (xs.set j y) W v inner) :=
  Fams.store hf j y
theorem Fams.pcell {w : World} {B p : Nat} {xs : List Value} {W : Wd} {v : Six} {inner : List Value} (hf : Fams w B (famY p xs W v inner)) (j : Nat) (hj : j < 6) : w.cell? ⟨p, j, none⟩ = xs[j]? := by
  have o0 := hf.own (r := ⟨47, 1, .slice (some ⟨p, 0, none⟩) 6 6, 6, xs⟩) (by simp [famY])
  exact o0.cellAt j (by omega)
theorem Fams.pfrozen {w : World} {B p : Nat} {xs : List Value} {W : Wd} {v : Six} {inner : List Value} (hf : Fams w B (famY p xs W v inner)) (j : Nat) : w.frozen? ⟨p, j, none⟩ = false := by
  have o0 := hf.own (r := ⟨47, 1, .slice (some ⟨p, 0, none⟩) 6 6, 6, xs⟩) (by simp [famY])
  exact o0.frozenAt j
theorem Fams.plt {w : World} {B p : Nat} {xs : List Value} {W : Wd} {v : Six} {inner : List Value} (hf : Fams w B (famY p xs W v inner)) : B ≤ p ∧ p < w.heap.size := by
  have o0 := hf.own (r := ⟨47, 1, .slice (some ⟨p, 0, none⟩) 6 6, 6, xs⟩) (by simp [famY])
  exact o0.lt p rfl

theorem Fams.appB {w w2 : World} {B p : Nat} {xs : List Value} {W : Wd} {v : Six} {inner : List Value} {o : Obj} {v' : Value} {b : Bool} (hf : Fams w B (famY p xs W v inner)) (hown : w2.ownsRow B 4 1 v' (W.born.length + 1) (W.born.map Value.bool ++ [.bool b]))
    (hg : (w.alloc o).grownBy w2 v.B.ownBlock) (hfr : Fresh (w.alloc o) v.B v') : Fams w2 B (famY p xs { W with born := W.born ++ [b] } { v with B := v' } inner) := by
  have h2 := (Fams.head (r' := ⟨4, 1, v', W.born.length + 1, W.born.map Value.bool ++ [Value.bool b]⟩) ((hf.alloc o).perm (perm1 _ _ _)) hg hfr hown).perm (perm1 _ _ _)
  simpa [famY] using h2
theorem Fams.appL {w w2 : World} {B p : Nat} {xs : List Value} {W : Wd} {v : Six} {inner : List Value} {o : Obj} {v' : Value} (hf : Fams w B (famY p xs W v inner)) (hown : w2.ownsRow B 3 1 v' (W.place.length + 1) (placeCells W.place ++ [.int .i64 0]))
    (hg : (w.alloc o).grownBy w2 v.L.ownBlock) (hfr : Fresh (w.alloc o) v.L v') : Fams w2 B (famY p xs { W with place := W.place ++ [0] } { v with L := v' } inner) := by
  have h2 := (Fams.head (r' := ⟨3, 1, v', W.place.length + 1, placeCells W.place ++ [Value.int .i64 0]⟩) ((hf.alloc o).perm (perm2 _ _ _ _)) hg hfr hown).perm (perm2 _ _ _ _).symm
  simpa [famY, placeCells] using h2
theorem Fams.appH {w w2 : World} {B p : Nat} {xs : List Value} {W : Wd} {v : Six} {inner : List Value} {o : Obj} {v' : Value} (hf : Fams w B (famY p xs W v inner)) (hown : w2.ownsRow B 9 1 v' (W.has.length + 1) (hasCells W.has ++ [.string ⟨#[]⟩]))
    (hg : (w.alloc o).grownBy w2 v.H.ownBlock) (hfr : Fresh (w.alloc o) v.H v') : Fams w2 B (famY p xs { W with has := W.has ++ [none] } { v with H := v' } inner) := by
  have h2 := (Fams.head (r' := ⟨9, 1, v', W.has.length + 1, hasCells W.has ++ [Value.string ⟨#[]⟩]⟩) ((hf.alloc o).perm (perm3 _ _ _ _ _)) hg hfr hown).perm (perm3 _ _ _ _ _).symm
  simpa [famY, hasCells, hasS] using h2
theorem Fams.appS {w w2 : World} {B p : Nat} {xs : List Value} {W : Wd} {v : Six} {inner : List Value} {o : Obj} {v' : Value} {b : Bool} (hf : Fams w B (famY p xs W v inner)) (hown : w2.ownsRow B 4 1 v' (W.set.length + 1) (W.set.map Value.bool ++ [.bool b]))
    (hg : (w.alloc o).grownBy w2 v.S.ownBlock) (hfr : Fresh (w.alloc o) v.S v') : Fams w2 B (famY p xs { W with set := W.set ++ [b] } { v with S := v' } inner) := by
  have h2 := (Fams.head (r' := ⟨4, 1, v', W.set.length + 1, W.set.map Value.bool ++ [Value.bool b]⟩) ((hf.alloc o).perm (perm4 _ _ _ _ _ _)) hg hfr hown).perm (perm4 _ _ _ _ _ _).symm
  simpa [famY] using h2
theorem rowsS_snoc : ∀ (ls : List (List ByteArray)) (vs : List Value) (l : List ByteArray) (v : Value), ls.length = vs.length → rowsS (ls ++ [l]) (vs ++ [v]) = rowsS ls vs ++ [⟨9, 1, v, l.length, l.map Value.string⟩]
  | [], [], _, _, _ => rfl
  | a :: ls, b :: vs, l, v, h => by
    simp only [List.cons_append, rowsS]
    rw [rowsS_snoc ls vs l v (by simpa using h)]
  | [], _ :: _, _, _, h => by simp at h
  | _ :: _, [], _, _, h => by simp at h
/-- A thread's steps, which lie in blocks that were not there, join the family. -/
theorem Fams.appP {w w1 w2 : World} {B p : Nat} {xs : List Value} {W : Wd} {v : Six} {inner : List Value} {o : Obj} {v' u : Value} {l : List ByteArray} (hf : Fams w B (famY p xs W v inner)) (hl : inner.length = W.prog.length) (hb : Below w.heap.size w w1) (hB : B ≤ w.heap.size)
    (hu : w1.ownsRow w.heap.size 9 1 u l.length (l.map Value.string)) (hown : w2.ownsRow B 35 1 v' (W.prog.length + 1) (inner ++ [u]))
    (hg : (w1.alloc o).grownBy w2 v.P.ownBlock) (hfr : Fresh (w1.alloc o) v.P v') : Fams w2 B (famY p xs { W with prog := W.prog ++ [l] } { v with P := v' } (inner ++ [u])) := by
  have h1 := Fams.add (r := ⟨9, 1, u, l.length, l.map Value.string⟩) hf hb hu hB
  have hp : ((⟨9, 1, u, l.length, l.map Value.string⟩ : RowD) :: famY p xs W v inner).Perm (⟨35, 1, v.P, W.prog.length, inner⟩ :: ⟨9, 1, u, l.length, l.map Value.string⟩ ::
      ⟨47, 1, .slice (some ⟨p, 0, none⟩) 6 6, 6, xs⟩ :: ⟨4, 1, v.B, W.born.length, W.born.map Value.bool⟩ :: ⟨3, 1, v.L, W.place.length, placeCells W.place⟩ :: ⟨9, 1, v.H, W.has.length, hasCells W.has⟩ ::
      ⟨4, 1, v.S, W.set.length, W.set.map Value.bool⟩ :: ⟨89, 4, v.G, W.log.length, W.log.flatMap evCells⟩ :: rowsS W.prog inner) :=
    List.perm_middle (l₁ := [_, _, _, _, _, _, _])
  have h2 := Fams.head (r' := ⟨35, 1, v', W.prog.length + 1, inner ++ [u]⟩) ((h1.alloc o).perm hp) hg hfr hown
  have hq : ((⟨35, 1, v', W.prog.length + 1, inner ++ [u]⟩ : RowD) :: ⟨9, 1, u, l.length, l.map Value.string⟩ ::
      ⟨47, 1, .slice (some ⟨p, 0, none⟩) 6 6, 6, xs⟩ :: ⟨4, 1, v.B, W.born.length, W.born.map Value.bool⟩ :: ⟨3, 1, v.L, W.place.length, placeCells W.place⟩ :: ⟨9, 1, v.H, W.has.length, hasCells W.has⟩ ::
      ⟨4, 1, v.S, W.set.length, W.set.map Value.bool⟩ :: ⟨89, 4, v.G, W.log.length, W.log.flatMap evCells⟩ :: rowsS W.prog inner).Perm
      (⟨47, 1, .slice (some ⟨p, 0, none⟩) 6 6, 6, xs⟩ :: ⟨4, 1, v.B, W.born.length, W.born.map Value.bool⟩ :: ⟨3, 1, v.L, W.place.length, placeCells W.place⟩ :: ⟨9, 1, v.H, W.has.length, hasCells W.has⟩ ::
      ⟨4, 1, v.S, W.set.length, W.set.map Value.bool⟩ :: ⟨89, 4, v.G, W.log.length, W.log.flatMap evCells⟩ :: ⟨35, 1, v', W.prog.length + 1, inner ++ [u]⟩ :: (rowsS W.prog inner ++ [⟨9, 1, u, l.length, l.map Value.string⟩])) := by
    refine (List.Perm.cons _ ?_).trans ((List.perm_middle (l₁ := [_, _, _, _, _, _])).symm)
    exact List.perm_append_comm (l₁ := [_])
  have h3 := h2.perm hq
  rw [← rowsS_snoc W.prog inner l u hl.symm] at h3
  simpa [famY] using h3

theorem infoBool : (Tryd.prog.info? 4).map (fun i => (i.zero, i.size, i.bytes)) = some (some (.bool false), 1, 1) := by kernel_rfl
theorem infoInt : (Tryd.prog.info? 3).map (fun i => (i.zero, i.size, i.bytes)) = some (some (.int .i64 0), 1, 8) := by kernel_rfl
theorem infoStrs : (Tryd.prog.info? 35).map (fun i => (i.zero, i.size, i.bytes)) = some (some (.slice none 0 0), 1, 24) := by kernel_rfl

/-- A new, empty world. -/
theorem Fams.fresh (w : World) (B : Nat) (hB : B ≤ w.heap.size) :
    Fams (w.alloc (.cells #[.slice none 0 0, .slice none 0 0, .slice none 0 0, .slice none 0 0, .slice none 0 0, .slice none 0 0] 47)) B
      (famY w.heap.size (Six.cells ⟨.slice none 0 0, .slice none 0 0, .slice none 0 0, .slice none 0 0, .slice none 0 0, .slice none 0 0⟩) ⟨[], [], [], [], [], []⟩ ⟨.slice none 0 0, .slice none 0 0, .slice none 0 0, .slice none 0 0, .slice none 0 0, .slice none 0 0⟩ []) := by
  have h0 := ((((((Fams.nil w B).addNil 35 1).addNil 89 4).addNil 4 1).addNil 9 1).addNil 3 1).addNil 4 1
  exact h0.lit hB 47 1 #[.slice none 0 0, .slice none 0 0, .slice none 0 0, .slice none 0 0, .slice none 0 0, .slice none 0 0] 6 (by unfold maxLen; omega) rfl

theorem below_of_drew {w w1 : World} (hb : Below w.drew.heap.size w.drew w1) : Below w.heap.size w w1 := ⟨hb.os, hb.tape, hb.output, hb.size, hb.block⟩
/-- A call of a Go function, as one step of a region that draws. -/
theorem step_call {P : Program} {ops : Array Oper} {o : Oper} {a : Act} {w : World} {K : Act → World → Prop} {Q : Exit → Act → World → Prop} {E : Prop} (hgd : o.guard = none) (f : FuncId) (args : Array Value)
    (ho : (execOp a.eval o).run P w = .ok (.enter f args) w) {R : Ending → World → Prop} (hc : Calls P f args w R) (h : ∀ e w', R e w' → ∃ v, e = .returned v ∧ K (a.put o.dst v) w') :
    if Region.wanted o (yielded ops a.tmps) = true then Oper.wp P o a w K Q else E := by
  have hw : Region.wanted o (yielded ops a.tmps) = true := by simp [Region.wanted, hgd]
  rw [if_pos hw]
  unfold Oper.wp
  rw [ho, Oper.upon_enter]
  refine hc.mono fun e w' hr => ?_
  obtain ⟨v, rfl, hk⟩ := h e w' hr
  exact hk
theorem cell_append1 {w w2 : World} {o : Obj} {row : Option Nat} {a : Addr} {u : Value} (hg : (w.alloc o).grownBy w2 row) (hc : w.cell? a = some u) (hne : some a.block ≠ row) : w2.cell? a = some u := by
  have hlt := World.block_lt_of_cell? w _ hc
  rw [hg.cell_far a (by show a.block < (w.heap.push o).size; simp; omega) hne]
  exact cell_later ((Below.refl _ _).alloc (Nat.le_refl _) _) hc
theorem frozen_append1 {w w2 : World} {o : Obj} {row : Option Nat} {a : Addr} {u : Value} (hg : (w.alloc o).grownBy w2 row) (hc : w.cell? a = some u) (hz : w.frozen? a = false) (hne : some a.block ≠ row) : w2.frozen? a = false := by
  have hlt := World.block_lt_of_cell? w _ hc
  rw [hg.frozen_far a (by show a.block < (w.heap.push o).size; simp; omega) hne]
  rw [(((Below.refl w.heap.size w).alloc (Nat.le_refl _) o)).frozen hlt]
  exact hz
end Go.Proofs.YtdfndcbakcmgiaaDoor
namespace Go.Proofs.YtdfndcbakcmgiaaDoor
open Go.RowKit
attribute [local go_sem ↓] Go.wp_at_zero Go.wp_at_succ

theorem steps_val (s : ByteArray) (w : World) (hs : s.size ≤ 160) :
    Calls Tryd.prog 23 #[.string s] w fun e w' => ∃ a c, e = .returned (.slice a (stLoop s 0 []).length c) ∧ Below w.heap.size w w' ∧
      w'.ownsRow w.heap.size 9 1 (.slice a (stLoop s 0 []).length c) (stLoop s 0 []).length ((stLoop s 0 []).map Value.string) := by
  refine (steps_any s w hs).mono ?_
  rintro e w1 ⟨v, rfl, hb, ho, _⟩
  rcases ho.2 with ⟨rfl, h0⟩ | ⟨g, cap, cur, rfl, _⟩
  · refine ⟨none, 0, by rw [h0], hb, ?_⟩
    have h0' : stLoop s 0 [] = [] := List.length_eq_zero_iff.1 h0
    rw [h0']
    exact World.ownsRow_nil _ _ _ _
  · exact ⟨_, cap, rfl, hb, ho⟩

/-- The world as far as it is made behind t threads. -/
def madeW (ths : List ByteArray) (t : Nat) : Wd := ⟨(ths.take t).map fun th => stLoop th 0 [], (List.range t).map fun i => decide (i = 0), List.replicate t 0, [], [], []⟩
def beginW (ths : List ByteArray) : Wd := { madeW ths ths.length with has := List.replicate 6 none, set := List.replicate 6 false }

theorem madeW_succ (ths : List ByteArray) (t : Nat) (h : t < ths.length) : madeW ths (t + 1) = ⟨(madeW ths t).prog ++ [stLoop ths[t] 0 []], (madeW ths t).born ++ [decide (t = 0)], (madeW ths t).place ++ [0], [], [], []⟩ := by
  unfold madeW
  simp only [Wd.mk.injEq, and_true]
  refine ⟨?_, ?_, ?_⟩
  · rw [List.take_succ_eq_append_getElem h, List.map_append]; rfl
  · rw [List.range_succ]; simp
  · rw [List.replicate_succ']

/-- All that the world's slices lie in is younger than N. -/
structure Young (N : Nat) (v : Six) : Prop where
  P : ∀ k, v.P.ownBlock = some k → N ≤ k
  B : ∀ k, v.B.ownBlock = some k → N ≤ k
  L : ∀ k, v.L.ownBlock = some k → N ≤ k
  H : ∀ k, v.H.ownBlock = some k → N ≤ k
  S : ∀ k, v.S.ownBlock = some k → N ≤ k
theorem fresh_young {w : World} {N : Nat} {v v' : Value} (h : ∀ k, v.ownBlock = some k → N ≤ k) (hf : Fresh w v v') (hN : N ≤ w.heap.size) : ∀ k, v'.ownBlock = some k → N ≤ k := by
  intro k hk
  rcases hf with e | ⟨g, e, hg⟩
  · exact h k (by rw [← e]; exact hk)
  · rw [e] at hk
    simp only [Option.some.injEq] at hk
    omega
theorem StrsIn.block {w w' : World} {B g : Nat} {l : List ByteArray} (h : StrsIn w B g l) (hs : w.heap.size ≤ w'.heap.size) (hb : w'.heap[g]? = w.heap[g]?) : StrsIn w' B g l :=
  ⟨h.1, Nat.lt_of_lt_of_le h.2.1 hs, fun j x hx => by rw [World.cell?_of_block (w := w) (a := ⟨g, j, none⟩) hb]; exact h.2.2 j x hx⟩

/-- What stands while a world is made: the slice of the threads' texts is as it was. -/
structure Making (w w1 wr : World) (p g : Nat) (W : Wd) (v : Six) (inner : List Value) : Prop where
  len : inner.length = W.prog.length
  young : Young w1.heap.size v
  below : Below p w wr
  size : w1.heap.size ≤ wr.heap.size
  blk : wr.heap[g]? = w1.heap[g]?
  fam : Fams wr p (famY p v.cells W v inner)

/-- A row is appended to and the struct's cell j written: what is old stands. -/
theorem making_step {w w1 wr wx w2 : World} {p g : Nat} {row : Option Nat} {y : Value} {j : Nat} (hB : Below p w wr) (hs : w1.heap.size ≤ wr.heap.size) (hb : wr.heap[g]? = w1.heap[g]?) (hg1 : g < w1.heap.size) (hgp : g ≠ p) (hp : p ≤ w1.heap.size)
    (hx : Below wr.heap.size wr wx) (hg : wx.grownBy w2 row) (hr : ∀ k, row = some k → w1.heap.size ≤ k) :
    Below p w (w2.setCell ⟨p, j, none⟩ y) ∧ w1.heap.size ≤ (w2.setCell ⟨p, j, none⟩ y).heap.size ∧ (w2.setCell ⟨p, j, none⟩ y).heap[g]? = w1.heap[g]? := by
  have hsx := hx.size
  have hsg := hg.size
  refine ⟨?_, ?_, ?_⟩
  · exact ((hB.trans (hx.mono (Nat.le_trans hp hs))).grown hg (by omega) (fun k hk => by have := hr k hk; omega)).setCell (Nat.le_refl _) _
  · show _ ≤ (w2.heap.modify _ _).size
    simp; omega
  · rw [Below.heap_setCell _ _ _ _ hgp, hg.block g (by omega) (fun e => by have := hr g e.symm; omega), hx.block g (by omega), hb]

set_option maxHeartbeats 4000000 in
set_option maxRecDepth 100000 in
theorem begin_any (s : ByteArray) (w : World) (hs : s.size ≤ 160) :
    Calls Tryd.prog 9 #[.string s] w fun e w' => ∃ p, e = .returned (.pointer (some ⟨p, 0, none⟩)) ∧ Below w.heap.size w w' ∧ RepW w' w.heap.size p (beginW (thLoop s 0 0 [])) := by
  obtain ⟨i0, hi0, hz0, hz1, hz2⟩ := info_split infoStrs
  have hth := fun w => threads_read s w hs
  have hlen := thLoop_len s _ 0 0 [] rfl
  have hsz := thLoop_size s _ 0 0 [] rfl (by simp)
  generalize hths : thLoop s 0 0 [] = ths at *
  clear hths
  simp only [List.length_nil] at hlen
  go_enter Tryd.func9, Tryd.ntmps9
  go_wp2_with (go_at_call 22; refine (hth _).mono ?_; rintro e w1 ⟨g, cap, rfl, hb1, hst⟩; clear hth)
  have hf1 := (Fams.fresh w w.heap.size (Nat.le_refl _)).below hb1
  have hB1 : Below w.heap.size w w1 := ((Below.refl _ _).alloc (Nat.le_refl _) _).trans (hb1.mono (by simp))
  have hg1 : g < w1.heap.size := hst.2.1
  have hgp : g ≠ w.heap.size := by have := hst.1; simp at this; omega
  have hp1 : w.heap.size ≤ w1.heap.size := hB1.size
  clear hb1
  have M0 : Making w w1 w1 w.heap.size g (madeW ths 0) ⟨.slice none 0 0, .slice none 0 0, .slice none 0 0, .slice none 0 0, .slice none 0 0, .slice none 0 0⟩ [] :=
    ⟨rfl, ⟨fun k h => by simp [Value.ownBlock] at h, fun k h => by simp [Value.ownBlock] at h, fun k h => by simp [Value.ownBlock] at h, fun k h => by simp [Value.ownBlock] at h, fun k h => by simp [Value.ownBlock] at h⟩, hB1, Nat.le_refl _, rfl, by simpa [madeW] using hf1⟩
  clear hf1 hB1
  generalize hp : w.heap.size = p at *
  have HP : Hid (w.heap.size = p) := hp
  clear hp
  go_loopw [5] (fun i wr => ∃ (t : Nat) (v : Six) (inner : List Value), t ≤ ths.length ∧ i = .int .i64 t ∧ v.H = .slice none 0 0 ∧ v.S = .slice none 0 0 ∧ v.G = .slice none 0 0 ∧ Making w w1 wr p g (madeW ths t) v inner) (fun i _ => ths.length - (intOf i).toNat)
  case atStart => exact ⟨0, _, _, Nat.zero_le _, rfl, rfl, rfl, rfl, M0⟩
  case round =>
    obtain ⟨t, v, inner, ht, rfl, vH, vS, vG, M⟩ := hrel
    clear M0
    by_cases hlt : t < ths.length
    · have hc := (hst.block M.size M.blk).2.2 t ths[t] (by simp [hlt])
      have hsz' := hsz ths[t] (by simp)
      have hM := madeW_succ ths t hlt
      have hstp := fun w => steps_val ths[t] w (by omega)
      generalize stLoop ths[t] 0 [] = r at hM hstp
      generalize ths[t] = x at hc hstp hsz'
      have fP : wr.cell? ⟨p, 0, none⟩ = some v.P := M.fam.pcell 0 (by omega)
      have zP := M.fam.pfrozen 0
      have oP := M.fam.own (r := ⟨35, 1, v.P, (madeW ths t).prog.length, inner⟩) (by simp [famY])
      simp only at oP
      have hpl : (madeW ths t).prog.length = t := by simp [madeW]; omega
      rw [hpl] at oP
      have lp := M.fam.plt
      have gne : some p ≠ v.P.ownBlock := by
        have := apart_of M.fam.2 0 6 _ _ (by omega) rfl rfl
        exact this.resolve_right (by simp [Value.ownBlock])
      have hMi : Hid (inner.length = (madeW ths t).prog.length) := M.len
      go_wp2
      go_cut [] (fun wc => ∃ (v' u : Value), Making w w1 wc p g { madeW ths t with prog := (madeW ths t).prog ++ [r] } { v with P := v' } (inner ++ [u]))
      case first =>
        go_region_law
          (first
            | (refine step_call (by rfl) 23 #[.string x] ?_ (hstp _) ?_; (· go_simp); rintro e w2 ⟨a, c, rfl, hb2, ho2⟩; refine ⟨_, rfl, ?_⟩; have fP2 := cell_later hb2 fP; have zP2 := frozen_later hb2 fP zP; have oP2 : w2.ownsRow p 35 1 v.P t inner := oP.kept (grownBy_of_below (below_of_drew hb2)) (by cases hv : v.P.ownBlock <;> simp); have lp2 : p < w2.heap.size := World.block_lt_of_cell? w2 _ fP2)
            | (refine step_append_lies _ (by rfl) _ _ _ (by rfl) p 35 i0 _ 1 24 Tryd.underlying42 hi0 hz0 hz1 hz2 rfl (by omega) v.P t inner (by rfl) (oP2.alloc _) ⟨w2.heap.size, 0, none⟩ 1 1 [.slice a r.length c] (by rfl) (by rfl) (World.news_of_block (cs := #[.slice a r.length c]) (t := 35) (fr := (0, 0)) (heap_alloc_new w2 _)) (by simp [Value.oneCell']) (by omega) (by unfold maxLen; omega) (by omega) (by simp; omega) (w2.heap.size + 1) (by simp) ?_; intro gg cap w3 hown3 hgrow hat hlt3; have fP3 := cell_append1 hgrow fP2 gne; have zP3 := frozen_append1 hgrow fP2 zP2 gne))
        all_goals
          go_wp2_with fail
          go_meet
          case rel =>
            have hfresh : Fresh (w2.alloc (.cells #[.slice a r.length c] 35)) v.P (.slice (some ⟨gg, 0, none⟩) (t + 1) cap) := by
              rcases hat with h | h
              · exact .inl h.symm
              · exact .inr ⟨gg, rfl, by simp; omega⟩
            have hx := (below_of_drew hb2).alloc (below_of_drew hb2).size (.cells #[.slice a r.length c] 35)
            obtain ⟨s1, s2, s3⟩ := making_step (j := 0) (y := .slice (some ⟨gg, 0, none⟩) (t + 1) cap) M.below M.size M.blk hg1 hgp hp1 hx hgrow M.young.P
            refine ⟨.slice (some ⟨gg, 0, none⟩) (t + 1) cap, .slice a r.length c, ⟨by simp [M.len], ⟨fresh_young M.young.P hfresh (by have := M.size; have := hb2.size; simp at this; simp; omega), M.young.B, M.young.L, M.young.H, M.young.S⟩, s1, s2, s3, ?_⟩⟩
            exact (Fams.appP M.fam.drew M.len hb2 (Nat.le_of_lt lp.2) ho2 (by rw [hpl]; exact hown3) hgrow hfresh).putP 0 _
      case rest =>
        obtain ⟨vP', u, M2⟩ := hcut
        clear hc hstp hsz' fP zP oP lp gne hMi
        have fB : wc.cell? ⟨p, 1, none⟩ = some v.B := M2.fam.pcell 1 (by omega)
        have zB := M2.fam.pfrozen 1
        have fL : wc.cell? ⟨p, 2, none⟩ = some v.L := M2.fam.pcell 2 (by omega)
        have oB := M2.fam.own (r := ⟨4, 1, v.B, (madeW ths t).born.length, (madeW ths t).born.map Value.bool⟩) (by simp [famY])
        simp only at oB
        have hbl : (madeW ths t).born.length = t := by simp [madeW]
        have gneB : some p ≠ v.B.ownBlock := by
          have := apart_of M2.fam.2 0 1 _ _ (by omega) rfl rfl
          exact this.resolve_right (by simp [Value.ownBlock])
        have eb : ((t : Int) == 0) = decide (t = 0) := by
          by_cases h : t = 0 <;> simp [h]
        rw [hbl] at oB
        go_wp2_with (at_builtin; go_loud (refine wpList_appendLit _ rfl _ _ 43 rfl p 4 (.bool false) 1 1 Tryd.underlying43 infoBool rfl (by decide) _ _ _ rfl oB _ _ rfl rfl rfl ?c2 ?c3 ?c4 ?c5 ?_))
        case c2 => rfl
        case c3 => omega
        case c5 => exact Nat.le_trans hp1 M2.size
        intro vB' w2 hown2 hg2 hfr2 _
        obtain ⟨gb, cb, hvb, _⟩ := ownsRow_form hown2 (by omega)
        subst hvb
        have fB2 := cell_append1 hg2 fB gneB
        have zB2 := frozen_append1 hg2 fB zB gneB
        have fL2 := cell_append1 hg2 fL gneB
        have M3 : Making w w1 (w2.setCell ⟨p, 1, none⟩ (.slice (some ⟨gb, 0, none⟩) (t + 1) cb)) p g { madeW ths t with prog := (madeW ths t).prog ++ [r], born := (madeW ths t).born ++ [decide (t = 0)] } { v with P := vP', B := .slice (some ⟨gb, 0, none⟩) (t + 1) cb } (inner ++ [u]) := by
          obtain ⟨s1, s2, s3⟩ := making_step (j := 1) (y := (.slice (some ⟨gb, 0, none⟩) (t + 1) cb)) M2.below M2.size M2.blk hg1 hgp hp1 ((Below.refl _ _).alloc (Nat.le_refl _) _) hg2 M2.young.B
          refine ⟨M2.len, ⟨M2.young.P, fresh_young M2.young.B hfr2 (by have := M2.size; simp; omega), M2.young.L, M2.young.H, M2.young.S⟩, s1, s2, s3, ?_⟩
          exact (Fams.appB M2.fam (by rw [hbl]; exact hown2) hg2 hfr2).putP 1 _
        have fL3 : (w2.setCell ⟨p, 1, none⟩ (.slice (some ⟨gb, 0, none⟩) (t + 1) cb)).cell? ⟨p, 2, none⟩ = some v.L := M3.fam.pcell 2 (by omega)
        have zL3 := M3.fam.pfrozen 2
        have oL := M3.fam.own (r := ⟨3, 1, v.L, (madeW ths t).place.length, placeCells (madeW ths t).place⟩) (by simp [famY])
        simp only at oL
        have hll : (madeW ths t).place.length = t := by simp [madeW]
        have gneL : some p ≠ v.L.ownBlock := by
          have := apart_of M3.fam.2 0 2 _ _ (by omega) rfl rfl
          exact this.resolve_right (by simp [Value.ownBlock])
        rw [hll] at oL
        clear hown2 hg2 hfr2 M2 fB zB fL oB
        go_wp2_with (at_builtin; go_loud (refine wpList_appendLit _ rfl _ _ 44 rfl p 3 (.int .i64 0) 1 8 Tryd.underlying44 infoInt rfl (by decide) _ _ _ rfl oL _ _ (by simp) rfl rfl ?d2 ?d3 ?d4 ?d5 ?_))
        case d2 => rfl
        case d3 => omega
        case d5 => have := M3.size; simp at this; omega
        intro vL' w3 hown3 hg3 hfr3 _
        obtain ⟨gl, cl, hvl, _⟩ := ownsRow_form hown3 (by omega)
        subst hvl
        have fL4 := cell_append1 hg3 fL3 gneL
        have zL4 := frozen_append1 hg3 fL3 zL3 gneL
        have M4 : Making w w1 (w3.setCell ⟨p, 2, none⟩ (.slice (some ⟨gl, 0, none⟩) (t + 1) cl)) p g (madeW ths (t + 1)) { v with P := vP', B := .slice (some ⟨gb, 0, none⟩) (t + 1) cb, L := .slice (some ⟨gl, 0, none⟩) (t + 1) cl } (inner ++ [u]) := by
          obtain ⟨s1, s2, s3⟩ := making_step (j := 2) (y := .slice (some ⟨gl, 0, none⟩) (t + 1) cl) M3.below M3.size M3.blk hg1 hgp hp1 ((Below.refl _ _).alloc (Nat.le_refl _) _) hg3 M3.young.L
          rw [hM]
          refine ⟨M3.len, ⟨M3.young.P, M3.young.B, fresh_young M3.young.L hfr3 (by have := M3.size; simp only [World.size_alloc]; omega), M3.young.H, M3.young.S⟩, s1, s2, s3, ?_⟩
          exact (Fams.appL M3.fam (by rw [hll]; exact hown3) hg3 hfr3).putP 2 _
        clear hown3 hg3 hfr3 M3 fL3 zL3 oL fB2 zB2 fL2 hM
        go_wp2
        go_roundw
        case rel => exact ⟨t + 1, { v with P := vP', B := .slice (some ⟨gb, 0, none⟩) (t + 1) cb, L := .slice (some ⟨gl, 0, none⟩) (t + 1) cl }, inner ++ [u], by omega, by go_num, vH, vS, vG, M4⟩
        case measure => simp [intOf]; omega
    · have ht2 : t = ths.length := by omega
      subst ht2
      clear hlt ht hsz hst
      go_wp2
      go_loopw [6] (fun i wx => ∃ (k : Nat) (v : Six), k ≤ 6 ∧ i = .int .i64 k ∧ v.S = .slice none 0 0 ∧ v.G = .slice none 0 0 ∧ Making w w1 wx p g { madeW ths ths.length with has := List.replicate k none } v inner) (fun i _ => 6 - (intOf i).toNat)
      case atStart => exact ⟨0, v, Nat.zero_le _, rfl, vS, vG, M⟩
      case round =>
        obtain ⟨k, v2, hk, rfl, vS2, vG2, N⟩ := hrel
        clear M vH vS vG v
        by_cases hk6 : k < 6
        · have fH : wr.cell? ⟨p, 3, none⟩ = some v2.H := N.fam.pcell 3 (by omega)
          have zH := N.fam.pfrozen 3
          have oH := N.fam.own (r := ⟨9, 1, v2.H, (List.replicate k (none : Option Nat)).length, hasCells (List.replicate k none)⟩) (by simp [famY])
          simp only at oH
          have gneH : some p ≠ v2.H.ownBlock := by
            have := apart_of N.fam.2 0 3 _ _ (by omega) rfl rfl
            exact this.resolve_right (by simp [Value.ownBlock])
          rw [List.length_replicate] at oH
          go_wp2_with (at_builtin; go_loud (refine wpList_appendLit _ rfl _ _ 35 rfl p 9 (.string ⟨#[]⟩) 1 16 Tryd.underlying35 infoString rfl (by decide) _ _ _ rfl oH _ _ rfl rfl rfl ?e2 ?e3 ?e4 ?e5 ?_))
          case e2 => rfl
          case e3 => omega
          case e5 => exact Nat.le_trans hp1 N.size
          intro vH' w3 hown3 hg3 hfr3 _
          obtain ⟨gh, ch, hvh, _⟩ := ownsRow_form hown3 (by omega)
          subst hvh
          have fH4 := cell_append1 hg3 fH gneH
          have zH4 := frozen_append1 hg3 fH zH gneH
          have N2 : Making w w1 (w3.setCell ⟨p, 3, none⟩ (.slice (some ⟨gh, 0, none⟩) (k + 1) ch)) p g { madeW ths ths.length with has := List.replicate (k + 1) none } { v2 with H := .slice (some ⟨gh, 0, none⟩) (k + 1) ch } inner := by
            obtain ⟨s1, s2, s3⟩ := making_step (j := 3) (y := .slice (some ⟨gh, 0, none⟩) (k + 1) ch) N.below N.size N.blk hg1 hgp hp1 ((Below.refl _ _).alloc (Nat.le_refl _) _) hg3 N.young.H
            refine ⟨N.len, ⟨N.young.P, N.young.B, N.young.L, fresh_young N.young.H hfr3 (by have := N.size; simp only [World.size_alloc]; omega), N.young.S⟩, s1, s2, s3, ?_⟩
            have er : List.replicate (k + 1) (none : Option Nat) = List.replicate k none ++ [none] := List.replicate_succ'
            rw [er]
            exact (Fams.appH N.fam (by rw [List.length_replicate]; exact hown3) hg3 hfr3).putP 3 _
          clear hown3 hg3 hfr3 N fH zH oH
          go_wp2
          go_roundw
          case rel => exact ⟨k + 1, { v2 with H := .slice (some ⟨gh, 0, none⟩) (k + 1) ch }, by omega, by go_num, vS2, vG2, N2⟩
          case measure => simp [intOf]; omega
        · have hke : k = 6 := by omega
          subst hke
          clear hk hk6
          go_wp2
          go_loopw [7] (fun i wx => ∃ (k : Nat) (v : Six), k ≤ 6 ∧ i = .int .i64 k ∧ v.G = .slice none 0 0 ∧ Making w w1 wx p g { madeW ths ths.length with has := List.replicate 6 none, set := List.replicate k false } v inner) (fun i _ => 6 - (intOf i).toNat)
          case atStart => exact ⟨0, v2, Nat.zero_le _, rfl, vG2, N⟩
          case round =>
            obtain ⟨k, v3, hk, rfl, vG3, O⟩ := hrel
            clear N vS2 vG2 v2
            by_cases hk6 : k < 6
            · have fS : wr.cell? ⟨p, 4, none⟩ = some v3.S := O.fam.pcell 4 (by omega)
              have zS := O.fam.pfrozen 4
              have oS := O.fam.own (r := ⟨4, 1, v3.S, (List.replicate k false).length, (List.replicate k false).map Value.bool⟩) (by simp [famY])
              simp only at oS
              have gneS : some p ≠ v3.S.ownBlock := by
                have := apart_of O.fam.2 0 4 _ _ (by omega) rfl rfl
                exact this.resolve_right (by simp [Value.ownBlock])
              rw [List.length_replicate] at oS
              go_wp2_with (at_builtin; go_loud (refine wpList_appendLit _ rfl _ _ 43 rfl p 4 (.bool false) 1 1 Tryd.underlying43 infoBool rfl (by decide) _ _ _ rfl oS _ _ rfl rfl rfl ?f2 ?f3 ?f4 ?f5 ?_))
              case f2 => rfl
              case f3 => omega
              case f5 => exact Nat.le_trans hp1 O.size
              intro vS' w3 hown3 hg3 hfr3 _
              obtain ⟨gs, cs, hvs, _⟩ := ownsRow_form hown3 (by omega)
              subst hvs
              have fS4 := cell_append1 hg3 fS gneS
              have zS4 := frozen_append1 hg3 fS zS gneS
              have O2 : Making w w1 (w3.setCell ⟨p, 4, none⟩ (.slice (some ⟨gs, 0, none⟩) (k + 1) cs)) p g { madeW ths ths.length with has := List.replicate 6 none, set := List.replicate (k + 1) false } { v3 with S := .slice (some ⟨gs, 0, none⟩) (k + 1) cs } inner := by
                obtain ⟨s1, s2, s3⟩ := making_step (j := 4) (y := .slice (some ⟨gs, 0, none⟩) (k + 1) cs) O.below O.size O.blk hg1 hgp hp1 ((Below.refl _ _).alloc (Nat.le_refl _) _) hg3 O.young.S
                refine ⟨O.len, ⟨O.young.P, O.young.B, O.young.L, O.young.H, fresh_young O.young.S hfr3 (by have := O.size; simp only [World.size_alloc]; omega)⟩, s1, s2, s3, ?_⟩
                have er : List.replicate (k + 1) false = List.replicate k false ++ [false] := List.replicate_succ'
                rw [er]
                exact (Fams.appS O.fam (by simpa using hown3) hg3 hfr3).putP 4 _
              clear hown3 hg3 hfr3 O fS zS oS
              go_wp2
              go_roundw
              case rel => exact ⟨k + 1, { v3 with S := .slice (some ⟨gs, 0, none⟩) (k + 1) cs }, by omega, by go_num, vG3, O2⟩
              case measure => simp [intOf]; omega
            · have hke : k = 6 := by omega
              subst hke
              go_wp2
              go_ret
              refine ⟨p, rfl, ?_, ?_⟩
              · rw [HP.out]; exact O.below
              · rw [HP.out]
                exact ⟨v3, inner, O.len, O.fam⟩
end Go.Proofs.YtdfndcbakcmgiaaDoor
