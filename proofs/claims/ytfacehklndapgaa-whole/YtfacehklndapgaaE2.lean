import Derived.Test.YtfacehklndapgaaE1
import Derived.Test.YtfacehklndapgaaD7
import Derived.Laws.Rows
import Derived.Laws.Tables
import Derived.Deep.RegionHeld3
import Derived.Deep.QuietTactic
import Derived.BigQuiet
namespace Go.Proofs.Ytfacehklndapgaa
open Go.RowKit

/-! The program's own machine: Step. -/

/-- Two new blocks, as they stand in a later world. -/
theorem two_new {w w1 : World} {o1 o2 : Obj} (hb : Below ((w.alloc o1).alloc o2).heap.size ((w.alloc o1).alloc o2) w1) :
    w1.heap[w.heap.size]? = some o1 ∧ w1.heap[w.heap.size + 1]? = some o2 ∧ Below w.heap.size w w1 ∧ w.heap.size + 2 ≤ w1.heap.size := by
  have hs : ((w.alloc o1).alloc o2).heap.size = w.heap.size + 2 := by simp
  have b1 := hb.block w.heap.size (by omega)
  have b2 := hb.block (w.heap.size + 1) (by omega)
  refine ⟨?_, ?_, ?_, ?_⟩
  · rw [b1]; exact heap_alloc2_old w o1 o2
  · rw [b2]; exact heap_alloc2_new w o1 o2
  · exact (((Below.refl w.heap.size w).alloc (Nat.le_refl _) o1).alloc (by simp) o2).trans (hb.mono (by omega))
  · have := hb.size; omega

theorem cellB {w : World} {g j : Nat} {cs : Array Value} {t : TypeId} {v : Value} (h : w.heap[g]? = some (.cells cs t (0, 0))) (hj : cs[j]? = some v) : w.cell? ⟨g, j, none⟩ = some v := by
  rw [cell_of_row _ _ _ _ _ _ h]; exact hj


set_option maxHeartbeats 1000000 in
theorem Step_in (V : Value) (L : List (List Stp)) (w : World) (B : Nat) (hp : ProgIn w B V L) (t n : Nat) (ht : t < L.length) (x : Stp) (hx : L[t][n]? = some x) (i j : Int) (hi : i = t) (hj : j = n) :
    Calls Try.prog 106 #[.agg #[V], .int .i64 i, .int .i64 j] w fun e w' => e = .returned (.tuple #[stpV x, .bool true]) ∧ Below w.heap.size w w' := by
  subst hi hj
  have hp2 := (hp.alloc (.cells #[V] 69)).alloc (.cells #[.int .i64 0, .int .i64 0, .int .i64 0] 132)
  have hn : n < L[t].length := (List.getElem?_eq_some_iff.1 hx).1
  have hS := Steps_in V L _ B hp2 t ht _ rfl
  obtain ⟨g, cap, hV, _, hc⟩ := hp
  obtain ⟨v, hcell, g1, c1, hv, _, h3⟩ := hc t L[t] (by simp [ht])
  obtain ⟨k0, k1, k2⟩ := h3 n x hx
  rw [Nat.mul_comm 3 n] at k0 k1 k2
  subst hV hv
  clear hc h3 hp2 hx
  generalize L[t].length = len at *
  go_enter Try.func106, Try.ntmps106
  go_wp2_with (go_at_call 96; refine hS.mono ?_; rintro e w1 ⟨rfl, hb⟩; obtain ⟨b0, b1, hB, hs2⟩ := two_new hb; clear hb; have e0 : w1.cell? ⟨w.heap.size, 0, none⟩ = some (.slice (some ⟨g, 0, none⟩) L.length cap) := cellB b0 rfl; have e1 := cell_later hB hcell; have e2 := cell_later hB k0; have e3 := cell_later hB k1; have e4 := cell_later hB k2; have q0 : w1.cell? ⟨w.heap.size + 1, 0, none⟩ = some (.int .i64 0) := cellB b1 rfl; have q1 : w1.cell? ⟨w.heap.size + 1, 1, none⟩ = some (.int .i64 0) := cellB b1 rfl; have q2 : w1.cell? ⟨w.heap.size + 1, 2, none⟩ = some (.int .i64 0) := cellB b1 rfl; have z0 : ∀ j, w1.frozen? ⟨w.heap.size + 1, j, none⟩ = false := fun j => frozen_of_row _ _ j _ _ b1; clear b0 b1; have l1 := World.block_lt_of_cell? _ _ hcell; have l2 := World.block_lt_of_cell? _ _ k0)
  exact bodyPost_ret (v := .tuple #[stpV x, .bool true]) (by simp [results, Try.results106, go_sem, stpV, q0, q1, q2]) rfl ⟨rfl, (by repeat' (first | exact hB | refine Below.setCell ?_ (by simp) _ | refine Below.alloc ?_ (by simp; omega) _))⟩

set_option maxHeartbeats 1000000 in
theorem Step_out (V : Value) (L : List (List Stp)) (w : World) (B : Nat) (hp : ProgIn w B V L) (t n : Nat) (ht : t < L.length) (hn : L[t].length ≤ n) (i j : Int) (hi : i = t) (hj : j = n) :
    Calls Try.prog 106 #[.agg #[V], .int .i64 i, .int .i64 j] w fun e w' => e = .returned (.tuple #[stpV ⟨0, 0, 0⟩, .bool false]) ∧ Below w.heap.size w w' := by
  subst hi hj
  have hp2 := (hp.alloc (.cells #[V] 69)).alloc (.cells #[.int .i64 0, .int .i64 0, .int .i64 0] 132)
  have hS := Steps_in V L _ B hp2 t ht _ rfl
  clear hp2
  generalize L[t].length = len at *
  go_enter Try.func106, Try.ntmps106
  go_wp2_with (go_at_call 96; refine hS.mono ?_; rintro e w1 ⟨rfl, hb⟩; obtain ⟨b0, b1, hB, hs2⟩ := two_new hb; clear hb; have q0 : w1.cell? ⟨w.heap.size + 1, 0, none⟩ = some (.int .i64 0) := cellB b1 rfl; have q1 : w1.cell? ⟨w.heap.size + 1, 1, none⟩ = some (.int .i64 0) := cellB b1 rfl; have q2 : w1.cell? ⟨w.heap.size + 1, 2, none⟩ = some (.int .i64 0) := cellB b1 rfl; have z0 : ∀ j, w1.frozen? ⟨w.heap.size + 1, j, none⟩ = false := fun j => frozen_of_row _ _ j _ _ b1; clear b0 b1)
  exact bodyPost_ret (v := .tuple #[stpV ⟨0, 0, 0⟩, .bool false]) (by simp [results, Try.results106, go_sem, stpV, q0, q1, q2]) rfl ⟨rfl, (by repeat' (first | exact hB | refine Below.setCell ?_ (by simp) _ | refine Below.alloc ?_ (by simp; omega) _))⟩
end Go.Proofs.Ytfacehklndapgaa
