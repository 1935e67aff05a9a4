import Derived.Test.YtfacehklndapgaaE6
namespace Go.Proofs.Ytfacehklndapgaa
open Go.RowKit
attribute [local go_sem ↓] loadS_fold storeS_fold

/-- What Next answers. -/
def nextV (x : Stp) (n : Nat) : Value := .tuple #[stpV x, .int .i64 n, .bool true]

set_option maxHeartbeats 2000000 in
theorem Next_in (V : Value) (L : List (List Stp)) (s : MS) (ok : s.Ok) (w : World) (B : Nat) (hp : ProgIn w B V L) (hL : L.length ≤ 5) (t n : Nat) (ht : t < L.length) (i : Int) (hi : i = t) (hn : s.pl[t]? = some n) (x : Stp) (hx : L[t][n]? = some x) :
    Calls Try.prog 94 #[.agg #[V], .agg s.cells, .int .i64 i] w fun e w' => e = .returned (nextV x n) ∧ Below w.heap.size w w' := by
  subst hi
  have hp2 : ProgIn (boxes w V s) B V L := (hp.alloc (.cells #[V] 69)).alloc (.cells s.cells 92)
  have hp3 := hp2.alloc (.cells #[.int .i64 0, .int .i64 0, .int .i64 0] 132)
  have hT := Threads_any V L _ B hp3
  have hS := fun w' hw => Step_in V L w' B (ProgIn.below hp3 (w' := w') hw) t n ht x hx _ _ rfl rfl
  have hst : StIn (boxes w V s) (w.heap.size + 1) s := ⟨heap_alloc2_new _ _ _, ok⟩
  have c2 := cell_later ((Below.refl _ _).alloc (Nat.le_refl _) (.cells #[.int .i64 0, .int .i64 0, .int .i64 0] 132)) (hst.pl hn)
  have hc0 : (boxes w V s).cell? ⟨w.heap.size, 0, none⟩ = some V := cellB (heap_alloc2_old _ _ _) rfl
  have hc1 := cell_later ((Below.refl _ _).alloc (Nat.le_refl _) (.cells #[.int .i64 0, .int .i64 0, .int .i64 0] 132)) hc0
  have hB0 : Below w.heap.size w ((boxes w V s).alloc (.cells #[.int .i64 0, .int .i64 0, .int .i64 0] 132)) := (two_new ((Below.refl _ _).alloc (Nat.le_refl _) _)).2.2.1
  have t0 : (0 : Int) ≤ (t : Int) := by omega
  have t5 : (t : Int) < 5 := by omega
  have t5' : t < 5 := by omega
  have ht' : ¬ ((L.length : Int) ≤ (t : Int)) := by omega
  have hs3 : (boxes w V s).heap.size = w.heap.size + 2 := by simp
  clear hp2 hp3 hp hL hst hn hx hc0 ht
  go_enter Try.func94, Try.ntmps94
  go_wp2_with (first
    | (go_at_call 78; refine hT.mono ?_; rintro e w1 ⟨rfl, hb⟩; obtain ⟨hc, hz, hlt, _⟩ := below_new hb; rw [hs3] at hc hz hlt; have q0 : w1.cell? ⟨w.heap.size + 2, 0, none⟩ = some (.int .i64 0) := hc 0 _ rfl; have q1 : w1.cell? ⟨w.heap.size + 2, 1, none⟩ = some (.int .i64 0) := hc 1 _ rfl; have q2 : w1.cell? ⟨w.heap.size + 2, 2, none⟩ = some (.int .i64 0) := hc 2 _ rfl; clear hc; have z0 := hz 0; have d2 := cell_later hb c2; have d0 := cell_later hb hc1)
    | (go_at_call 106; refine (hS _ hb).mono ?_; rintro e w2 ⟨he, hb1⟩; rw [stpV] at he; subst he; have q0' := cell_later hb1 q0; have q1' := cell_later hb1 q1; have q2' := cell_later hb1 q2; have z0' := frozen_later hb1 q0 (hz 0); have z1' := frozen_later hb1 q1 (hz 1); have z2' := frozen_later hb1 q2 (hz 2); have hB2 := hb.trans (hb1.mono hb.size); have hl2 := Nat.lt_of_lt_of_le hlt hb1.size))
  have hBw : Below w.heap.size w w2 := hB0.trans (hB2.mono hB0.size)
  exact bodyPost_ret (v := nextV x n) (by simp [results, Try.results94, go_sem, nextV, stpV, q0', q1', q2', hl2]) rfl ⟨rfl, (((hBw.setCell (p := ⟨w.heap.size + 2, 0, none⟩) (by simp) _).setCell (p := ⟨w.heap.size + 2, 1, none⟩) (by simp) _).setCell (p := ⟨w.heap.size + 2, 2, none⟩) (by simp) _).alloc (by simpa using hBw.size) _⟩
end Go.Proofs.Ytfacehklndapgaa
