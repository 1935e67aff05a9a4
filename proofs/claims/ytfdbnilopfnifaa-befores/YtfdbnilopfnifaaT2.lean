import Derived.Test.YtfdbnilopfnifaaE3
namespace Go.Proofs.Ytfdbnilopfnifaa
open Go.RowKit

/-! The program's moves. -/
structure Mv where
  th : Nat
  pl : Nat
  x : Stp
  h : ByteArray
def Mv.cells (m : Mv) : Array Value := #[.int .i64 m.th, .int .i64 m.pl, .int .i64 m.x.kind, .int .i64 m.x.which, .int .i64 m.x.count, .string m.h]
def stB (a : Mv) (u : Int) : Bool := decide (a.x.kind = 6 ∧ a.x.which = u)
/-- Does a move lead to a later one? -/
def ldB (a b : Mv) : Bool := decide (a.th = b.th) || stB a b.th || (decide (b.x.kind = 7) && (decide (b.x.which = a.th) || stB a b.x.which))

theorem starts_any (a : Mv) (u : Int) (w : World) :
    Calls Try.prog 135 #[.agg a.cells, .int .i64 u] w fun e w' => e = .returned (.bool (stB a u)) ∧ Below w.heap.size w w' := by
  obtain ⟨th, pl, ⟨k, i, c⟩, h⟩ := a
  show Calls Try.prog 135 #[.agg #[.int .i64 th, .int .i64 pl, .int .i64 k, .int .i64 i, .int .i64 c, .string h], .int .i64 u] w _
  by_cases hk : k = 6
  · by_cases hi : i = u
    · have hr : stB ⟨th, pl, ⟨k, i, c⟩, h⟩ u = true := by simp [stB, hk, hi]
      rw [hr]; clear hr
      subst hk hi
      go_enter Try.func135, Try.ntmps135
      go_wp2
      go_ret
      exact ⟨rfl, (Below.refl _ _).alloc (Nat.le_refl _) _⟩
    · have hr : stB ⟨th, pl, ⟨k, i, c⟩, h⟩ u = false := by simp [stB, hk, hi]
      rw [hr]; clear hr
      subst hk
      have hb : (i == u) = false := beq_false_of_ne hi
      go_enter Try.func135, Try.ntmps135
      go_wp2
      go_ret
      exact ⟨rfl, (Below.refl _ _).alloc (Nat.le_refl _) _⟩
  · have hr : stB ⟨th, pl, ⟨k, i, c⟩, h⟩ u = false := by simp [stB, hk]
    rw [hr]; clear hr
    have hb : (k == 6) = false := beq_false_of_ne hk
    go_enter Try.func135, Try.ntmps135
    go_wp2
    go_ret
    exact ⟨rfl, (Below.refl _ _).alloc (Nat.le_refl _) _⟩

set_option maxRecDepth 100000 in
set_option maxHeartbeats 1000000 in
theorem leads_any (a b : Mv) (w : World) :
    Calls Try.prog 125 #[.agg a.cells, .agg b.cells] w fun e w' => e = .returned (.bool (ldB a b)) ∧ Below w.heap.size w w' := by
  have hS := fun (u : Int) w => starts_any a u w
  have hr : ldB a b = (decide (a.th = b.th) || stB a b.th || (decide (b.x.kind = 7) && (decide (b.x.which = a.th) || stB a b.x.which))) := rfl
  rw [hr]; clear hr
  have e1 : ((a.th : Int) == (b.th : Int)) = decide (a.th = b.th) := by
    by_cases h : a.th = b.th
    · simp [h]
    · have : (a.th : Int) ≠ b.th := by omega
      simp [h, this]
  have e2 : ((a.th : Int) == b.x.which) = decide (b.x.which = (a.th : Int)) := by
    by_cases h : b.x.which = (a.th : Int)
    · simp [h]
    · have : (a.th : Int) ≠ b.x.which := fun hh => h hh.symm
      simp [h, this]
  generalize hs1 : stB a b.th = s1 at *
  generalize hs2 : stB a b.x.which = s2 at *
  obtain ⟨th, pl, ⟨k, i, c⟩, h⟩ := a
  obtain ⟨th', pl', ⟨k', i', c'⟩, h'⟩ := b
  simp only at e1 e2 hs1 hs2 ⊢
  have hS1 := hS th'
  have hS2 := hS i'
  rw [hs1] at hS1
  rw [hs2] at hS2
  simp only [Mv.cells] at hS1 hS2 ⊢
  clear hs1 hs2 hS
  generalize decide (th = th') = d1 at *
  generalize decide (i' = (th : Int)) = d2 at *
  have hBX := (two_new (w := w) (o1 := .cells #[.int .i64 th, .int .i64 pl, .int .i64 k, .int .i64 i, .int .i64 c, .string h] 142) (o2 := .cells #[.int .i64 th', .int .i64 pl', .int .i64 k', .int .i64 i', .int .i64 c', .string h'] 142) (Below.refl _ _)).2.2.1
  cases d1 with
  | true =>
    go_enter Try.func125, Try.ntmps125
    go_wp2
    go_ret
    exact ⟨rfl, hBX⟩
  | false =>
    cases s1 with
    | true =>
      go_enter Try.func125, Try.ntmps125
      go_wp2_with (first | (go_at_call 135; refine (hS1 _).mono ?_; rintro e w1 ⟨rfl, hb⟩))
      go_ret
      exact ⟨rfl, hBX.trans (hb.mono hBX.size)⟩
    | false =>
      by_cases hk : k' = 7
      · subst hk
        cases d2 with
        | true =>
          go_enter Try.func125, Try.ntmps125
          go_wp2_with (first | (go_at_call 135; refine (hS1 _).mono ?_; rintro e w1 ⟨rfl, hb⟩; obtain ⟨b0, b1, hB, _⟩ := two_new hb; have q0 : w1.cell? ⟨w.heap.size, 0, none⟩ = some (.int .i64 th) := cellB b0 rfl; have q2 : w1.cell? ⟨w.heap.size + 1, 2, none⟩ = some (.int .i64 7) := cellB b1 rfl; have q3 : w1.cell? ⟨w.heap.size + 1, 3, none⟩ = some (.int .i64 i') := cellB b1 rfl))
          go_ret
          exact ⟨rfl, hB⟩
        | false =>
          go_enter Try.func125, Try.ntmps125
          go_upto_region 5 with (first | (go_at_call 135; refine (hS1 _).mono ?_; rintro e w1 ⟨rfl, hb⟩; obtain ⟨b0, b1, hB, _⟩ := two_new hb; have q0 : w1.cell? ⟨w.heap.size, 0, none⟩ = some (.int .i64 th) := cellB b0 rfl; have p1 : w1.cell? ⟨w.heap.size, 1, none⟩ = some (.int .i64 pl) := cellB b0 rfl; have p2 : w1.cell? ⟨w.heap.size, 2, none⟩ = some (.int .i64 k) := cellB b0 rfl; have p3 : w1.cell? ⟨w.heap.size, 3, none⟩ = some (.int .i64 i) := cellB b0 rfl; have p4 : w1.cell? ⟨w.heap.size, 4, none⟩ = some (.int .i64 c) := cellB b0 rfl; have p5 : w1.cell? ⟨w.heap.size, 5, none⟩ = some (.string h) := cellB b0 rfl; have q2 : w1.cell? ⟨w.heap.size + 1, 2, none⟩ = some (.int .i64 7) := cellB b1 rfl; have q3 : w1.cell? ⟨w.heap.size + 1, 3, none⟩ = some (.int .i64 i') := cellB b1 rfl))
          go_wp2_with (first | (go_at_call 135; refine (hS2 _).mono ?_; rintro e w2 ⟨rfl, hb2⟩))
          go_ret
          exact ⟨by simp, hB.trans (hb2.mono hB.size)⟩
      · have hk2 : (k' != 7) = true := by simpa using hk
        go_enter Try.func125, Try.ntmps125
        go_wp2_with (first | (go_at_call 135; refine (hS1 _).mono ?_; rintro e w1 ⟨rfl, hb⟩; obtain ⟨b0, b1, hB, _⟩ := two_new hb; have q2 : w1.cell? ⟨w.heap.size + 1, 2, none⟩ = some (.int .i64 k') := cellB b1 rfl))
        go_ret
        exact ⟨by simp [hk], hB⟩

theorem cell_put_other (w : World) {p a : Addr} (h : a.block ≠ p.block) (u : Value) : (w.setCell p u).cell? a = w.cell? a := World.cell?_of_block (heap_setCell_other _ _ _ _ h)
theorem below_setRow {n : Nat} {w w' : World} {g : Nat} (h : Below n w w') (hg : n ≤ g) (c : Array Value) : Below n w (w'.setRow g c) :=
  ⟨by simpa using h.os, by simpa using h.tape, by simpa using h.output, by simpa using h.size, fun k hk => (setRow_other w' g k c (by omega)).trans (h.block k hk)⟩

/-! The program's sets: sixty marks, as a value. -/
def setC (m : List Bool) : Array Value := (m.map Value.bool).toArray
theorem setC_size (m : List Bool) : (setC m).size = m.length := by simp [setC]
theorem setC_one {m : List Bool} : ∀ v ∈ setC m, v.oneCell' = true := by
  intro v hv
  simp only [setC, List.mem_toArray, List.mem_map] at hv
  obtain ⟨b, _, rfl⟩ := hv
  rfl
theorem setC_get {m : List Bool} {j : Nat} {b : Bool} (h : m[j]? = some b) : (setC m)[j]? = some (.bool b) := by simp [setC, h]
theorem setC_set (m : List Bool) (j : Nat) (b : Bool) : (setC m).setIfInBounds j (.bool b) = setC (m.set j b) := by simp [setC, List.map_set]
theorem setC_inj {a b : List Bool} (h : setC a = setC b) : a = b := by
  have h1 : a.map Value.bool = b.map Value.bool := by
    have := congrArg Array.toList h
    simpa [setC] using this
  exact List.map_inj_right (fun _ _ e => by injection e) |>.1 h1
structure SetIn (w : World) (g : Nat) (m : List Bool) : Prop where
  blk : w.heap[g]? = some (.cells (setC m) 145 (0, 0))
  n : m.length = 60
def zeroM60 : List Bool := List.replicate 60 false
def loadQ (p : Value) : Sem Value := Instr.loadAt 145 p
def storeQ (p v : Value) : Sem Unit := Instr.storeAt 145 p v
theorem loadQ_fold (p : Value) : Instr.loadAt 145 p = loadQ p := rfl
theorem storeQ_fold (p v : Value) : Instr.storeAt 145 p v = storeQ p v := rfl
theorem zeroQ_fold (w : World) : (zeroValue 145).run Try.prog w = .ok (.agg (setC zeroM60)) w := Try.zeroValue145 w
theorem info60 : (Try.prog.info? 145).map (·.size) = some 60 := by
  have h := Try.sizeOf145 { heap := #[], tape := default, drawn := default, os := default, output := default }
  generalize Try.prog = P at *
  cases hq : P.info? 145 with
  | none => simp [sizeOf, typeInfo, hq] at h
  | some i => simp [sizeOf, typeInfo, hq] at h; simp [h]
theorem loadVar60 {w : World} {g : Nat} {m : List Bool} (h : SetIn w g m) : (loadVar 145 ⟨g, 0, none⟩).run Try.prog w = .ok (.agg (setC m)) w :=
  run_loadVar_row w g _ _ (setC m) _ _ h.blk Try.underlying145 rfl (by rw [setC_size, h.n]; exact info60)
theorem SetIn.loadQ {w : World} {g : Nat} {m : List Bool} (h : SetIn w g m) : (loadQ (.pointer (some ⟨g, 0, none⟩))).run Try.prog w = .ok (.agg (setC m)) w := by
  simp only [Go.Proofs.Ytfdbnilopfnifaa.loadQ, Instr.loadAt, Instr.sureAddr, Sem.run_bind, Sem.run_pure, Result.andThen]
  exact loadVar60 h
theorem storeQ_run {w : World} {g : Nat} {old m : List Bool} (h : SetIn w g old) (hm : m.length = 60) :
    (storeQ (.pointer (some ⟨g, 0, none⟩)) (.agg (setC m))).run Try.prog w = .ok () (w.setRow g (setC m)) := by
  simp only [Go.Proofs.Ytfdbnilopfnifaa.storeQ, Instr.storeAt, Instr.sureAddr, Sem.run_bind, Sem.run_pure, Result.andThen]
  exact run_storeVar_row w g _ _ (setC old) (setC m) h.blk (by rw [setC_size, hm]; exact info60) (by rw [setC_size, setC_size, h.n, hm]) (Array.all_eq_true_iff_forall_mem.2 fun v hv => setC_one v hv)
theorem SetIn.cell {w : World} {g : Nat} {m : List Bool} (h : SetIn w g m) {j : Nat} {b : Bool} (hb : m[j]? = some b) : w.cell? ⟨g, j, none⟩ = some (.bool b) := cellB h.blk (setC_get hb)
theorem SetIn.z {w : World} {g : Nat} {m : List Bool} (h : SetIn w g m) : ∀ j, w.frozen? ⟨g, j, none⟩ = false := fun j => frozen_of_row _ _ j _ _ h.blk
theorem SetIn.lt {w : World} {g : Nat} {m : List Bool} (h : SetIn w g m) : g < w.heap.size := (Array.getElem?_eq_some_iff.1 h.blk).1
theorem SetIn.below {w w' : World} {g : Nat} {m : List Bool} (h : SetIn w g m) (hb : Below w.heap.size w w') : SetIn w' g m :=
  ⟨by rw [hb.block g h.lt]; exact h.blk, h.n⟩
theorem SetIn.put {w : World} {g : Nat} {m : List Bool} (h : SetIn w g m) (j : Nat) (b : Bool) : SetIn (w.setCell ⟨g, j, none⟩ (.bool b)) g (m.set j b) :=
  ⟨by rw [← setC_set]; exact heap_setCell_same _ _ _ _ _ _ h.blk, by simpa using h.n⟩
theorem SetIn.setRow {w : World} {g : Nat} {old m : List Bool} (h : SetIn w g old) (hm : m.length = 60) : SetIn (w.setRow g (setC m)) g m := ⟨setRow_heap w g _ _ _ _ h.blk, hm⟩
theorem SetIn.new (w : World) {m : List Bool} (hm : m.length = 60) : SetIn (w.alloc (.cells (setC m) 145)) w.heap.size m := ⟨heap_alloc_new _ _, hm⟩
theorem SetIn.old {w : World} {g : Nat} {m : List Bool} (h : SetIn w g m) (o : Obj) : SetIn (w.alloc o) g m := h.below ((Below.refl _ _).alloc (Nat.le_refl _) o)
theorem SetIn.other {w : World} {g : Nat} {m : List Bool} (h : SetIn w g m) {p : Addr} (hp : p.block ≠ g) (u : Value) : SetIn (w.setCell p u) g m := ⟨by rw [heap_setCell_other _ _ _ _ (fun e => hp e.symm)]; exact h.blk, h.n⟩
theorem SetIn.rowOther {w : World} {g g' : Nat} {m : List Bool} (h : SetIn w g m) (hne : g ≠ g') (c : Array Value) : SetIn (w.setRow g' c) g m := ⟨by rw [setRow_other _ _ _ _ hne]; exact h.blk, h.n⟩
end Go.Proofs.Ytfdbnilopfnifaa
