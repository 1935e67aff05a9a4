import Derived.Test.YtfacehklndapgaaE3
namespace Go.Proofs.Ytfacehklndapgaa
open Go.RowKit

/-- What the join of thread u is at. -/
def lookJoin (L : List (List Stp)) (s : MS) (u : Nat) : Int × Int :=
  if s.st[u]? = some true ∧ (L[u]?.getD []).length ≤ s.pl[u]?.getD 0 then (1, -1) else (3, u)

set_option maxHeartbeats 1000000 in
theorem lookAtJoin_any (V : Value) (L : List (List Stp)) (s : MS) (ok : s.Ok) (w : World) (B : Nat) (hp : ProgIn w B V L) (hL : L.length ≤ 5) (u : Nat) (hu : u < L.length) (i : Int) (hi : i = u) :
    Calls Try.prog 109 #[.agg #[V], .agg s.cells, .int .i64 i] w fun e w' => e = .returned (pairV (lookJoin L s u)) ∧ Below w.heap.size w w' := by
  subst hi
  have hp2 := (hp.alloc (.cells #[V] 69)).alloc (.cells s.cells 92)
  have hS := fun w' hw => Steps_in V L w' B (ProgIn.below hp2 (w' := w') hw) u hu _ rfl
  obtain ⟨b, hb⟩ : ∃ b, s.st[u]? = some b := ⟨s.st[u]'(by rw [ok.n1]; omega), by simp⟩
  obtain ⟨n, hn⟩ : ∃ n, s.pl[u]? = some n := ⟨s.pl[u]'(by rw [ok.n2]; omega), by simp⟩
  have hst : StIn ((w.alloc (.cells #[V] 69)).alloc (.cells s.cells 92)) (w.heap.size + 1) s := ⟨heap_alloc2_new _ _ _, ok⟩
  have c1 := hst.st hb
  have c2 := hst.pl hn
  have hj : lookJoin L s u = if b = true ∧ L[u].length ≤ n then (1, -1) else (3, (u : Int)) := by
    simp [lookJoin, hb, hn, hu]
  have hc0 : ((w.alloc (.cells #[V] 69)).alloc (.cells s.cells 92)).cell? ⟨w.heap.size, 0, none⟩ = some V := cellB (heap_alloc2_old _ _ _) rfl
  rw [hj]
  clear hj hn hb hp2
  generalize L[u].length = len at *
  have hu5 : u < 5 := by omega
  have u0 : (0 : Int) ≤ (u : Int) := by omega
  have u5 : (u : Int) < 5 := by omega
  cases b with
  | true =>
    by_cases h : len ≤ n
    · rw [if_pos ⟨rfl, h⟩]
      go_enter Try.func109, Try.ntmps109
      go_wp2
      go_region_held3 (fun w' => w'.cell? ⟨w.heap.size + 1, u, none⟩ = some (.bool true) ∧ w'.cell? ⟨w.heap.size + 1, 5 + u, none⟩ = some (.int .i64 n) ∧ w'.cell? ⟨w.heap.size, 0, none⟩ = some V) (first | exact ⟨c1, c2, hc0⟩ | exact ⟨cell_later hb1 c1, cell_later hb1 c2, cell_later hb1 hc0⟩ | go_keep)
        (first | (go_at_call 96; refine (hS _ (by first | exact Below.refl _ _ | exact (Below.refl _ _).drew | exact below_drewN _ _)).mono ?_; rintro e w1 ⟨rfl, hb⟩; have hb1 : Below ((w.alloc (.cells #[V] 69)).alloc (.cells s.cells 92)).heap.size ((w.alloc (.cells #[V] 69)).alloc (.cells s.cells 92)) w1 := (by first | exact hb | exact below_of_drewN (n := 1) hb | exact below_of_drewN hb); clear hb))
      go_wp2
      go_ret2
      exact ⟨rfl, (two_new hb1).2.2.1⟩
    · rw [if_neg (fun hh => h hh.2)]
      go_enter Try.func109, Try.ntmps109
      go_wp2
      go_region_held3 (fun w' => w'.cell? ⟨w.heap.size + 1, u, none⟩ = some (.bool true) ∧ w'.cell? ⟨w.heap.size + 1, 5 + u, none⟩ = some (.int .i64 n) ∧ w'.cell? ⟨w.heap.size, 0, none⟩ = some V) (first | exact ⟨c1, c2, hc0⟩ | exact ⟨cell_later hb1 c1, cell_later hb1 c2, cell_later hb1 hc0⟩ | go_keep)
        (first | (go_at_call 96; refine (hS _ (by first | exact Below.refl _ _ | exact (Below.refl _ _).drew | exact below_drewN _ _)).mono ?_; rintro e w1 ⟨rfl, hb⟩; have hb1 : Below ((w.alloc (.cells #[V] 69)).alloc (.cells s.cells 92)).heap.size ((w.alloc (.cells #[V] 69)).alloc (.cells s.cells 92)) w1 := (by first | exact hb | exact below_of_drewN (n := 1) hb | exact below_of_drewN hb); clear hb))
      go_wp2
      go_ret2
      exact ⟨rfl, (two_new hb1).2.2.1⟩
  | false =>
    rw [if_neg (fun hh => by simp at hh)]
    go_enter Try.func109, Try.ntmps109
    go_wp2
    go_quiet (fail)
    go_wp2
    go_ret2
    exact ⟨rfl, (two_new (below_drewN _ _)).2.2.1⟩
end Go.Proofs.Ytfacehklndapgaa
