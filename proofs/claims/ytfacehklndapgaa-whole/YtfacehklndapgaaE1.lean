import Derived.Test.YtfacehklndapgaaB5
namespace Go.Proofs.Ytfacehklndapgaa
open Go.RowKit

/-! The program's own machine: small functions. -/

theorem Threads_any (V : Value) (L : List (List Stp)) (w : World) (B : Nat) (hp : ProgIn w B V L) :
    Calls Try.prog 78 #[.agg #[V]] w fun e w' => e = .returned (.int .i64 L.length) ∧ Below w.heap.size w w' := by
  obtain ⟨g, cap, rfl, _, _⟩ := hp
  go_enter Try.func78, Try.ntmps78
  go_wp2
  go_ret
  exact ⟨rfl, (Below.refl _ _).alloc (Nat.le_refl _) _⟩

/-- How many steps thread t has. -/
def stepsN (L : List (List Stp)) (t : Int) : Nat := if t < 0 then 0 else (L[t.toNat]?.getD []).length

theorem Steps_in (V : Value) (L : List (List Stp)) (w : World) (B : Nat) (hp : ProgIn w B V L) (t : Nat) (ht : t < L.length) (i : Int) (hi : i = t) :
    Calls Try.prog 96 #[.agg #[V], .int .i64 i] w fun e w' => e = .returned (.int .i64 L[t].length) ∧ Below w.heap.size w w' := by
  subst hi
  obtain ⟨g, cap, rfl, _, hc⟩ := hp
  obtain ⟨v, hcell, g1, c1, rfl, _, _⟩ := hc t L[t] (by simp [ht])
  have hlt := World.block_lt_of_cell? w _ hcell
  simp only at hlt
  have n0 : ¬ ((t : Int) < 0) := by omega
  generalize L[t].length = n at *
  clear hc
  go_enter Try.func96, Try.ntmps96
  go_wp2
  go_ret
  exact ⟨rfl, (Below.refl _ _).alloc (Nat.le_refl _) _⟩
theorem Steps_out (V : Value) (L : List (List Stp)) (w : World) (B : Nat) (hp : ProgIn w B V L) (i : Int) (hi : i < 0 ∨ (L.length : Int) ≤ i) :
    Calls Try.prog 96 #[.agg #[V], .int .i64 i] w fun e w' => e = .returned (.int .i64 0) ∧ Below w.heap.size w w' := by
  obtain ⟨g, cap, rfl, _, hc⟩ := hp
  clear hc
  by_cases h : i < 0
  · go_enter Try.func96, Try.ntmps96
    go_wp2
    go_ret
    exact ⟨rfl, (Below.refl _ _).alloc (Nat.le_refl _) _⟩
  · have h2 : (L.length : Int) ≤ i := by omega
    go_enter Try.func96, Try.ntmps96
    go_wp2
    go_ret
    exact ⟨rfl, (Below.refl _ _).alloc (Nat.le_refl _) _⟩

theorem faultIf_any (b : Bool) (w : World) : Calls Try.prog 108 #[.bool b] w fun e w' => e = .returned (.tuple #[.int .i64 (if b = true then 5 else 1), .int .i64 (-1)]) ∧ w' = w := by
  cases b
  all_goals
    go_enter Try.func108, Try.ntmps108
    go_wp2
    go_ret2
    exact ⟨rfl, rfl⟩
theorem skipTo_any (a b : Int) (w : World) : Calls Try.prog 95 #[.int .i64 a, .int .i64 b] w fun e w' => e = .returned (.int .i64 (min a b)) ∧ w' = w := by
  by_cases h : b < a
  · have hm : min a b = b := by omega
    rw [hm]; clear hm
    go_enter Try.func95, Try.ntmps95
    go_wp2
    go_ret
    exact ⟨rfl, rfl⟩
  · have hm : min a b = a := by omega
    rw [hm]; clear hm
    go_enter Try.func95, Try.ntmps95
    go_wp2
    go_ret
    exact ⟨rfl, rfl⟩
theorem pickAt_any (s : ByteArray) (k : Nat) (i : Int) (hi : i = k) (w : World) : Calls Try.prog 76 #[.string s, .int .i64 i] w fun e w' => e = .returned (.int .i64 (byteI s k)) ∧ w' = w := by
  subst hi
  by_cases h : k < s.size
  · have hb : s[k].toNat < 256 := UInt8.toNat_lt s[k]
    have hb0 : (0 : Int) ≤ (s[k].toNat : Int) := Int.natCast_nonneg _
    go_enter Try.func76, Try.ntmps76
    go_wp2
    go_ret
    refine ⟨ret_int ?_, rfl⟩
    exact byteI_in h
  · go_enter Try.func76, Try.ntmps76
    go_wp2
    go_ret
    exact ⟨ret_int (by rw [byteI, dif_neg h]), rfl⟩

end Go.Proofs.Ytfacehklndapgaa
