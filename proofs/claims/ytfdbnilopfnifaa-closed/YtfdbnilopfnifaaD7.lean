import Derived.Test.YtfdbnilopfnifaaD6
import Derived.Test.YtfdbnilopfnifaaB4
import Derived.Laws.Rows
import Derived.Laws.Tables
import Derived.Deep.RegionHeld3
import Derived.Deep.QuietTactic
import Derived.BigQuiet
namespace Go.Proofs.Ytfdbnilopfnifaa
open Go.RowKit
attribute [local go_sem ↓] Go.wp_at_zero Go.wp_at_succ

/-- The family with the struct's six cells apart. -/
def famY (p : Nat) (xs : List Value) (W : Wd) (v : Six) (inner : List Value) : List RowD :=
  ⟨85, 1, .slice (some ⟨p, 0, none⟩) 6 6, 6, xs⟩ ::
  ⟨4, 1, v.B, W.born.length, W.born.map Value.bool⟩ ::
  ⟨3, 1, v.L, W.place.length, placeCells W.place⟩ ::
  ⟨9, 1, v.H, W.has.length, hasCells W.has⟩ ::
  ⟨4, 1, v.S, W.set.length, W.set.map Value.bool⟩ ::
  ⟨128, 4, v.G, W.log.length, W.log.flatMap evCells⟩ ::
  ⟨76, 1, v.P, W.prog.length, inner⟩ :: rowsS W.prog inner
def Six.cells (v : Six) : List Value := [v.P, v.B, v.L, v.H, v.S, v.G]

theorem Fams.putP {w : World} {B p : Nat} {xs : List Value} {W : Wd} {v : Six} {inner : List Value} (hf : Fams w B (famY p xs W v inner)) (j : Nat) (y : Value) : Fams (w.setCell ⟨p, j, none⟩ y) B (famY p (xs.set j y) W v inner) :=
  Fams.store hf j y
theorem Fams.pcell {w : World} {B p : Nat} {xs : List Value} {W : Wd} {v : Six} {inner : List Value} (hf : Fams w B (famY p xs W v inner)) (j : Nat) (hj : j < 6) : w.cell? ⟨p, j, none⟩ = xs[j]? := by
  have o0 := hf.own (r := ⟨85, 1, .slice (some ⟨p, 0, none⟩) 6 6, 6, xs⟩) (by simp [famY])
  exact o0.cellAt j (by omega)
theorem Fams.pfrozen {w : World} {B p : Nat} {xs : List Value} {W : Wd} {v : Six} {inner : List Value} (hf : Fams w B (famY p xs W v inner)) (j : Nat) : w.frozen? ⟨p, j, none⟩ = false := by
  have o0 := hf.own (r := ⟨85, 1, .slice (some ⟨p, 0, none⟩) 6 6, 6, xs⟩) (by simp [famY])
  exact o0.frozenAt j
theorem Fams.plt {w : World} {B p : Nat} {xs : List Value} {W : Wd} {v : Six} {inner : List Value} (hf : Fams w B (famY p xs W v inner)) : B ≤ p ∧ p < w.heap.size := by
  have o0 := hf.own (r := ⟨85, 1, .slice (some ⟨p, 0, none⟩) 6 6, 6, xs⟩) (by simp [famY])
  exact o0.lt p rfl

theorem Fams.appB {w w2 : World} {B p : Nat} {xs : List Value} {W : Wd} {v : Six} {inner : List Value} {o : Obj} {v' : Value} {b : Bool} (hf : Fams w B (famY p xs W v inner)) (hown : w2.ownsRow B 4 1 v' (W.born.length + 1) (W.born.map Value.bool ++ [.bool b]))
    (hg : (w.alloc o).grownBy w2 v.B.ownBlock) (hfr : Fresh (w.alloc o) v.B v') : Fams w2 B (famY p xs { W with born := W.born ++ [b] } { v with B := v' } inner) := by
  have h2 := (Fams.head (r' := ⟨4, 1, v', W.born.length + 1, W.born.map Value.bool ++ [Value.bool b]⟩) ((hf.alloc o).perm (perm1 _ _ _)) hg hfr hown).perm (perm1 _ _ _)
  simpa [famY] using h2
theorem Fams.appL {w w2 : World} {B p : Nat} {xs : List Value} {W : Wd} {v : Six} {inner : List Value} {o : Obj} {v' : Value} (hf : Fams w B (famY p xs W v inner)) (hown : w2.ownsRow B 3 1 v' (W.place.length + 1) (placeCells W.place ++ [.int .i64 0]))
    (hg : (w.alloc o).grownBy w2 v.L.ownBlock) (hfr : Fresh (w.alloc o) v.L v') : Fams w2 B (famY p xs { W with place := W.place ++ [0] } { v with L := v' } inner) := by
  have h2 := (Fams.head (r' := ⟨3, 1, v', W.place.length + 1, placeCells W.place ++ [Value.int .i64 0]⟩) ((hf.alloc o).perm (perm2 _ _ _ _)) hg hfr hown).perm (perm2 _ _ _ _).symm
  simpa [famY, placeCells] using h2
theorem Fams.appH {w w2 : World} {B p : Nat} {xs : List Value} {W : Wd} {v : Six} {inner : List Value} {o : Obj} {v' : Value} (hf : Fams w B (famY p xs W v inner)) (hown : w2.ownsRow B 9 1 v' (W.has.length + 1) (hasCells W.has ++ [.string ⟨#[]⟩]))
    (hg : (w.alloc o).grownBy w2 v.H.ownBlock) (hfr : Fresh (w.alloc o) v.H v') : Fams w2 B (famY p xs { W with has := W.has ++ [none] } { v with H := v' } inner) := by
  have h2 := (Fams.head (r' := ⟨9, 1, v', W.has.length + 1, hasCells W.has ++ [Value.string ⟨#[]⟩]⟩) ((hf.alloc o).perm (perm3 _ _ _ _ _)) hg hfr hown).perm (perm3 _ _ _ _ _).symm
  simpa [famY, hasCells, hasS] using h2
theorem Fams.appS {w w2 : World} {B p : Nat} {xs : List Value} {W : Wd} {v : Six} {inner : List Value} {o : Obj} {v' : Value} {b : Bool} (hf : Fams w B (famY p xs W v inner)) (hown : w2.ownsRow B 4 1 v' (W.set.length + 1) (W.set.map Value.bool ++ [.bool b]))
    (hg : (w.alloc o).grownBy w2 v.S.ownBlock) (hfr : Fresh (w.alloc o) v.S v') : Fams w2 B (famY p xs { W with set := W.set ++ [b] } { v with S := v' } inner) := by
  have h2 := (Fams.head (r' := ⟨4, 1, v', W.set.length + 1, W.set.map Value.bool ++ [Value.bool b]⟩) ((hf.alloc o).perm (perm4 _ _ _ _ _ _)) hg hfr hown).perm (perm4 _ _ _ _ _ _).symm
  simpa [famY] using h2
theorem rowsS_snoc : ∀ (ls : List (List ByteArray)) (vs : List Value) (l : List ByteArray) (v : Value), ls.length = vs.length → rowsS (ls ++ [l]) (vs ++ [v]) = rowsS ls vs ++ [⟨9, 1, v, l.length, l.map Value.string⟩]
  | [], [], _, _, _ => rfl
  | a :: ls, b :: vs, l, v, h => by
    simp only [List.cons_append, rowsS]
    rw [rowsS_snoc ls vs l v (by simpa using h)]
  | [], _ :: _, _, _, h => by simp at h
  | _ :: _, [], _, _, h => by simp at h
/-- A thread's steps, which lie in blocks that were not there, join the family. -/
theorem Fams.appP {w w1 w2 : World} {B p : Nat} {xs : List Value} {W : Wd} {v : Six} {inner : List Value} {o : Obj} {v' u : Value} {l : List ByteArray} (hf : Fams w B (famY p xs W v inner)) (hl : inner.length = W.prog.length) (hb : Below w.heap.size w w1) (hB : B ≤ w.heap.size)
    (hu : w1.ownsRow w.heap.size 9 1 u l.length (l.map Value.string)) (hown : w2.ownsRow B 76 1 v' (W.prog.length + 1) (inner ++ [u]))
    (hg : (w1.alloc o).grownBy w2 v.P.ownBlock) (hfr : Fresh (w1.alloc o) v.P v') : Fams w2 B (famY p xs { W with prog := W.prog ++ [l] } { v with P := v' } (inner ++ [u])) := by
  have h1 := Fams.add (r := ⟨9, 1, u, l.length, l.map Value.string⟩) hf hb hu hB
  have hp : ((⟨9, 1, u, l.length, l.map Value.string⟩ : RowD) :: famY p xs W v inner).Perm (⟨76, 1, v.P, W.prog.length, inner⟩ :: ⟨9, 1, u, l.length, l.map Value.string⟩ ::
      ⟨85, 1, .slice (some ⟨p, 0, none⟩) 6 6, 6, xs⟩ :: ⟨4, 1, v.B, W.born.length, W.born.map Value.bool⟩ :: ⟨3, 1, v.L, W.place.length, placeCells W.place⟩ :: ⟨9, 1, v.H, W.has.length, hasCells W.has⟩ ::
      ⟨4, 1, v.S, W.set.length, W.set.map Value.bool⟩ :: ⟨128, 4, v.G, W.log.length, W.log.flatMap evCells⟩ :: rowsS W.prog inner) :=
    List.perm_middle (l₁ := [_, _, _, _, _, _, _])
  have h2 := Fams.head (r' := ⟨76, 1, v', W.prog.length + 1, inner ++ [u]⟩) ((h1.alloc o).perm hp) hg hfr hown
  have hq : ((⟨76, 1, v', W.prog.length + 1, inner ++ [u]⟩ : RowD) :: ⟨9, 1, u, l.length, l.map Value.string⟩ ::
      ⟨85, 1, .slice (some ⟨p, 0, none⟩) 6 6, 6, xs⟩ :: ⟨4, 1, v.B, W.born.length, W.born.map Value.bool⟩ :: ⟨3, 1, v.L, W.place.length, placeCells W.place⟩ :: ⟨9, 1, v.H, W.has.length, hasCells W.has⟩ ::
      ⟨4, 1, v.S, W.set.length, W.set.map Value.bool⟩ :: ⟨128, 4, v.G, W.log.length, W.log.flatMap evCells⟩ :: rowsS W.prog inner).Perm
      (⟨85, 1, .slice (some ⟨p, 0, none⟩) 6 6, 6, xs⟩ :: ⟨4, 1, v.B, W.born.length, W.born.map Value.bool⟩ :: ⟨3, 1, v.L, W.place.length, placeCells W.place⟩ :: ⟨9, 1, v.H, W.has.length, hasCells W.has⟩ ::
      ⟨4, 1, v.S, W.set.length, W.set.map Value.bool⟩ :: ⟨128, 4, v.G, W.log.length, W.log.flatMap evCells⟩ :: ⟨76, 1, v', W.prog.length + 1, inner ++ [u]⟩ :: (rowsS W.prog inner ++ [⟨9, 1, u, l.length, l.map Value.string⟩])) := by
    refine (List.Perm.cons _ ?_).trans ((List.perm_middle (l₁ := [_, _, _, _, _, _])).symm)
    exact List.perm_append_comm (l₁ := [_])
  have h3 := h2.perm hq
  rw [← rowsS_snoc W.prog inner l u hl.symm] at h3
  simpa [famY] using h3

theorem infoBool : (Try.prog.info? 4).map (fun i => (i.zero, i.size, i.bytes)) = some (some (.bool false), 1, 1) := by kernel_rfl
theorem infoInt : (Try.prog.info? 3).map (fun i => (i.zero, i.size, i.bytes)) = some (some (.int .i64 0), 1, 8) := by kernel_rfl
theorem infoStrs : (Try.prog.info? 76).map (fun i => (i.zero, i.size, i.bytes)) = some (some (.slice none 0 0), 1, 24) := by kernel_rfl

/-- A new, empty world. -/
theorem Fams.fresh (w : World) (B : Nat) (hB : B ≤ w.heap.size) :
    Fams (w.alloc (.cells #[.slice none 0 0, .slice none 0 0, .slice none 0 0, .slice none 0 0, .slice none 0 0, .slice none 0 0] 85)) B
      (famY w.heap.size (Six.cells ⟨.slice none 0 0, .slice none 0 0, .slice none 0 0, .slice none 0 0, .slice none 0 0, .slice none 0 0⟩) ⟨[], [], [], [], [], []⟩ ⟨.slice none 0 0, .slice none 0 0, .slice none 0 0, .slice none 0 0, .slice none 0 0, .slice none 0 0⟩ []) := by
  have h0 := ((((((Fams.nil w B).addNil 76 1).addNil 128 4).addNil 4 1).addNil 9 1).addNil 3 1).addNil 4 1
  exact h0.lit hB 85 1 #[.slice none 0 0, .slice none 0 0, .slice none 0 0, .slice none 0 0, .slice none 0 0, .slice none 0 0] 6 (by unfold maxLen; omega) rfl

theorem below_of_drew {w w1 : World} (hb : Below w.drew.heap.size w.drew w1) : Below w.heap.size w w1 := ⟨hb.os, hb.tape, hb.output, hb.size, hb.block⟩
/-- A call of a Go function, as one step of a region that draws. -/
theorem step_call {P : Program} {ops : Array Oper} {o : Oper} {a : Act} {w : World} {K : Act → World → Prop} {Q : Exit → Act → World → Prop} {E : Prop} (hgd : o.guard = none) (f : FuncId) (args : Array Value)
    (ho : (execOp a.eval o).run P w = .ok (.enter f args) w) {R : Ending → World → Prop} (hc : Calls P f args w R) (h : ∀ e w', R e w' → ∃ v, e = .returned v ∧ K (a.put o.dst v) w') :
    if Region.wanted o (yielded ops a.tmps) = true then Oper.wp P o a w K Q else E := by
  have hw : Region.wanted o (yielded ops a.tmps) = true := by simp [Region.wanted, hgd]
  rw [if_pos hw]
  unfold Oper.wp
  rw [ho, Oper.upon_enter]
  refine hc.mono fun e w' hr => ?_
  obtain ⟨v, rfl, hk⟩ := h e w' hr
  exact hk
theorem cell_append1 {w w2 : World} {o : Obj} {row : Option Nat} {a : Addr} {u : Value} (hg : (w.alloc o).grownBy w2 row) (hc : w.cell? a = some u) (hne : some a.block ≠ row) : w2.cell? a = some u := by
  have hlt := World.block_lt_of_cell? w _ hc
  rw [hg.cell_far a (by show a.block < (w.heap.push o).size; simp; omega) hne]
  exact cell_later ((Below.refl _ _).alloc (Nat.le_refl _) _) hc
theorem frozen_append1 {w w2 : World} {o : Obj} {row : Option Nat} {a : Addr} {u : Value} (hg : (w.alloc o).grownBy w2 row) (hc : w.cell? a = some u) (hz : w.frozen? a = false) (hne : some a.block ≠ row) : w2.frozen? a = false := by
  have hlt := World.block_lt_of_cell? w _ hc
  rw [hg.frozen_far a (by show a.block < (w.heap.push o).size; simp; omega) hne]
  rw [(((Below.refl w.heap.size w).alloc (Nat.le_refl _) o)).frozen hlt]
  exact hz
end Go.Proofs.Ytfdbnilopfnifaa
namespace Go.Proofs.Ytfdbnilopfnifaa
open Go.RowKit

/-! The program's own machine: Step. -/

/-- Two new blocks, as they stand in a later world. -/
theorem two_new {w w1 : World} {o1 o2 : Obj} (hb : Below ((w.alloc o1).alloc o2).heap.size ((w.alloc o1).alloc o2) w1) :
    w1.heap[w.heap.size]? = some o1 ∧ w1.heap[w.heap.size + 1]? = some o2 ∧ Below w.heap.size w w1 ∧ w.heap.size + 2 ≤ w1.heap.size := by
  have hs : ((w.alloc o1).alloc o2).heap.size = w.heap.size + 2 := by simp
  have b1 := hb.block w.heap.size (by omega)
  have b2 := hb.block (w.heap.size + 1) (by omega)
  refine ⟨?_, ?_, ?_, ?_⟩
  · rw [b1]; exact heap_alloc2_old w o1 o2
  · rw [b2]; exact heap_alloc2_new w o1 o2
  · exact (((Below.refl w.heap.size w).alloc (Nat.le_refl _) o1).alloc (by simp) o2).trans (hb.mono (by omega))
  · have := hb.size; omega

theorem cellB {w : World} {g j : Nat} {cs : Array Value} {t : TypeId} {v : Value} (h : w.heap[g]? = some (.cells cs t (0, 0))) (hj : cs[j]? = some v) : w.cell? ⟨g, j, none⟩ = some v := by
  rw [cell_of_row _ _ _ _ _ _ h]; exact hj


set_option maxHeartbeats 1000000 in
theorem Step_in (V : Value) (L : List (List Stp)) (w : World) (B : Nat) (hp : ProgIn w B V L) (t n : Nat) (ht : t < L.length) (x : Stp) (hx : L[t][n]? = some x) (i j : Int) (hi : i = t) (hj : j = n) :
    Calls Try.prog 121 #[.agg #[V], .int .i64 i, .int .i64 j] w fun e w' => e = .returned (.tuple #[stpV x, .bool true]) ∧ Below w.heap.size w w' := by
  subst hi hj
  have hp2 := (hp.alloc (.cells #[V] 72)).alloc (.cells #[.int .i64 0, .int .i64 0, .int .i64 0] 140)
  have hn : n < L[t].length := (List.getElem?_eq_some_iff.1 hx).1
  have hS := Steps_in V L _ B hp2 t ht _ rfl
  obtain ⟨g, cap, hV, _, hc⟩ := hp
  obtain ⟨v, hcell, g1, c1, hv, _, h3⟩ := hc t L[t] (by simp [ht])
  obtain ⟨k0, k1, k2⟩ := h3 n x hx
  rw [Nat.mul_comm 3 n] at k0 k1 k2
  subst hV hv
  clear hc h3 hp2 hx
  generalize L[t].length = len at *
  go_enter Try.func121, Try.ntmps121
  go_wp2_with (go_at_call 109; refine hS.mono ?_; rintro e w1 ⟨rfl, hb⟩; obtain ⟨b0, b1, hB, hs2⟩ := two_new hb; clear hb; have e0 : w1.cell? ⟨w.heap.size, 0, none⟩ = some (.slice (some ⟨g, 0, none⟩) L.length cap) := cellB b0 rfl; have e1 := cell_later hB hcell; have e2 := cell_later hB k0; have e3 := cell_later hB k1; have e4 := cell_later hB k2; have q0 : w1.cell? ⟨w.heap.size + 1, 0, none⟩ = some (.int .i64 0) := cellB b1 rfl; have q1 : w1.cell? ⟨w.heap.size + 1, 1, none⟩ = some (.int .i64 0) := cellB b1 rfl; have q2 : w1.cell? ⟨w.heap.size + 1, 2, none⟩ = some (.int .i64 0) := cellB b1 rfl; have z0 : ∀ j, w1.frozen? ⟨w.heap.size + 1, j, none⟩ = false := fun j => frozen_of_row _ _ j _ _ b1; clear b0 b1; have l1 := World.block_lt_of_cell? _ _ hcell; have l2 := World.block_lt_of_cell? _ _ k0)
  exact bodyPost_ret (v := .tuple #[stpV x, .bool true]) (by simp [results, Try.results121, go_sem, stpV, q0, q1, q2]) rfl ⟨rfl, (by repeat' (first | exact hB | refine Below.setCell ?_ (by simp) _ | refine Below.alloc ?_ (by simp; omega) _))⟩

set_option maxHeartbeats 1000000 in
theorem Step_out (V : Value) (L : List (List Stp)) (w : World) (B : Nat) (hp : ProgIn w B V L) (t n : Nat) (ht : t < L.length) (hn : L[t].length ≤ n) (i j : Int) (hi : i = t) (hj : j = n) :
    Calls Try.prog 121 #[.agg #[V], .int .i64 i, .int .i64 j] w fun e w' => e = .returned (.tuple #[stpV ⟨0, 0, 0⟩, .bool false]) ∧ Below w.heap.size w w' := by
  subst hi hj
  have hp2 := (hp.alloc (.cells #[V] 72)).alloc (.cells #[.int .i64 0, .int .i64 0, .int .i64 0] 140)
  have hS := Steps_in V L _ B hp2 t ht _ rfl
  clear hp2
  generalize L[t].length = len at *
  go_enter Try.func121, Try.ntmps121
  go_wp2_with (go_at_call 109; refine hS.mono ?_; rintro e w1 ⟨rfl, hb⟩; obtain ⟨b0, b1, hB, hs2⟩ := two_new hb; clear hb; have q0 : w1.cell? ⟨w.heap.size + 1, 0, none⟩ = some (.int .i64 0) := cellB b1 rfl; have q1 : w1.cell? ⟨w.heap.size + 1, 1, none⟩ = some (.int .i64 0) := cellB b1 rfl; have q2 : w1.cell? ⟨w.heap.size + 1, 2, none⟩ = some (.int .i64 0) := cellB b1 rfl; have z0 : ∀ j, w1.frozen? ⟨w.heap.size + 1, j, none⟩ = false := fun j => frozen_of_row _ _ j _ _ b1; clear b0 b1)
  exact bodyPost_ret (v := .tuple #[stpV ⟨0, 0, 0⟩, .bool false]) (by simp [results, Try.results121, go_sem, stpV, q0, q1, q2]) rfl ⟨rfl, (by repeat' (first | exact hB | refine Below.setCell ?_ (by simp) _ | refine Below.alloc ?_ (by simp; omega) _))⟩
end Go.Proofs.Ytfdbnilopfnifaa
