import Derived.Test.YtdfndcbakcmgiabDoorE1
import Derived.Deep.MidRow
namespace Go.Proofs.YtdfndcbakcmgiabDoor
open Go.RowKit

/-! The program's moves. -/
structure Mv where
  th : Nat
  pl : Nat
  x : Stp
  h : ByteArray
def Mv.cells (m : Mv) : Array Value := #[.int .i64 m.th, .int .i64 m.pl, .int .i64 m.x.kind, .int .i64 m.x.which, .int .i64 m.x.count, .string m.h]
def stB (a : Mv) (u : Int) : Bool := decide (a.x.kind = 6 ∧ a.x.which = u)
/-- Does a move lead to a later one? -/
def ldB (a b : Mv) : Bool := decide (a.th = b.th) || stB a b.th || (decide (b.x.kind = 7) && (decide (b.x.which = a.th) || stB a b.x.which))

theorem starts_any (a : Mv) (u : Int) (w : World) :
    Calls Tryd.prog 104 #[.agg a.cells, .int .i64 u] w fun e w' => e = .returned (.bool (stB a u)) ∧ Below w.heap.size w w' := by
  obtain ⟨th, pl, ⟨k, i, c⟩, h⟩ := a
  show Calls Tryd.prog 104 #[.agg #[.int .i64 th, .int .i64 pl, .int .i64 k, .int .i64 i, .int .i64 c, .string h], .int .i64 u] w _
  by_cases hk : k = 6
  · by_cases hi : i = u
    · have hr : stB ⟨th, pl, ⟨k, i, c⟩, h⟩ u = true := by simp [stB, hk, hi]
      rw [hr]; clear hr
      subst hk hi
      go_enter Tryd.func104, Tryd.ntmps104
      go_wp2
      go_ret
      exact ⟨rfl, (Below.refl _ _).alloc (Nat.le_refl _) _⟩
    · have hr : stB ⟨th, pl, ⟨k, i, c⟩, h⟩ u = false := by simp [stB, hk, hi]
      rw [hr]; clear hr
      subst hk
      have hb : (i == u) = false := beq_false_of_ne hi
      go_enter Tryd.func104, Tryd.ntmps104
      go_wp2
      go_ret
      exact ⟨rfl, (Below.refl _ _).alloc (Nat.le_refl _) _⟩
  · have hr : stB ⟨th, pl, ⟨k, i, c⟩, h⟩ u = false := by simp [stB, hk]
    rw [hr]; clear hr
    have hb : (k == 6) = false := beq_false_of_ne hk
    go_enter Tryd.func104, Tryd.ntmps104
    go_wp2
    go_ret
    exact ⟨rfl, (Below.refl _ _).alloc (Nat.le_refl _) _⟩

set_option maxRecDepth 100000 in
set_option maxHeartbeats 1000000 in
theorem leads_any (a b : Mv) (w : World) :
    Calls Tryd.prog 100 #[.agg a.cells, .agg b.cells] w fun e w' => e = .returned (.bool (ldB a b)) ∧ Below w.heap.size w w' := by
  have hS := fun (u : Int) w => starts_any a u w
  have hr : ldB a b = (decide (a.th = b.th) || stB a b.th || (decide (b.x.kind = 7) && (decide (b.x.which = a.th) || stB a b.x.which))) := rfl
  rw [hr]; clear hr
  have e1 : ((a.th : Int) == (b.th : Int)) = decide (a.th = b.th) := by
    by_cases h : a.th = b.th
    · simp [h]
    · have : (a.th : Int) ≠ b.th := by omega
      simp [h, this]
  have e2 : ((a.th : Int) == b.x.which) = decide (b.x.which = (a.th : Int)) := by
    by_cases h : b.x.which = (a.th : Int)
    · simp [h]
    · have : (a.th : Int) ≠ b.x.which := fun hh => h hh.symm
      simp [h, this]
  generalize hs1 : stB a b.th = s1 at *
  generalize hs2 : stB a b.x.which = s2 at *
  obtain ⟨th, pl, ⟨k, i, c⟩, h⟩ := a
  obtain ⟨th', pl', ⟨k', i', c'⟩, h'⟩ := b
  simp only at e1 e2 hs1 hs2 ⊢
  have hS1 := hS th'
  have hS2 := hS i'
  rw [hs1] at hS1
  rw [hs2] at hS2
  simp only [Mv.cells] at hS1 hS2 ⊢
  clear hs1 hs2 hS
  generalize decide (th = th') = d1 at *
  generalize decide (i' = (th : Int)) = d2 at *
  have hBX := (two_new (w := w) (o1 := .cells #[.int .i64 th, .int .i64 pl, .int .i64 k, .int .i64 i, .int .i64 c, .string h] 88) (o2 := .cells #[.int .i64 th', .int .i64 pl', .int .i64 k', .int .i64 i', .int .i64 c', .string h'] 88) (Below.refl _ _)).2.2.1
  cases d1 with
  | true =>
    go_enter Tryd.func100, Tryd.ntmps100
    go_wp2
    go_ret
    exact ⟨rfl, hBX⟩
  | false =>
    cases s1 with
    | true =>
      go_enter Tryd.func100, Tryd.ntmps100
      go_wp2_with (first | (go_at_call 104; refine (hS1 _).mono ?_; rintro e w1 ⟨rfl, hb⟩))
      go_ret
      exact ⟨rfl, hBX.trans (hb.mono hBX.size)⟩
    | false =>
      by_cases hk : k' = 7
      · subst hk
        cases d2 with
        | true =>
          go_enter Tryd.func100, Tryd.ntmps100
          go_wp2_with (first | (go_at_call 104; refine (hS1 _).mono ?_; rintro e w1 ⟨rfl, hb⟩; obtain ⟨b0, b1, hB, _⟩ := two_new hb; have q0 : w1.cell? ⟨w.heap.size, 0, none⟩ = some (.int .i64 th) := cellB b0 rfl; have q2 : w1.cell? ⟨w.heap.size + 1, 2, none⟩ = some (.int .i64 7) := cellB b1 rfl; have q3 : w1.cell? ⟨w.heap.size + 1, 3, none⟩ = some (.int .i64 i') := cellB b1 rfl))
          go_ret
          exact ⟨rfl, hB⟩
        | false =>
          go_enter Tryd.func100, Tryd.ntmps100
          go_upto_region 5 with (first | (go_at_call 104; refine (hS1 _).mono ?_; rintro e w1 ⟨rfl, hb⟩; obtain ⟨b0, b1, hB, _⟩ := two_new hb; have q0 : w1.cell? ⟨w.heap.size, 0, none⟩ = some (.int .i64 th) := cellB b0 rfl; have p1 : w1.cell? ⟨w.heap.size, 1, none⟩ = some (.int .i64 pl) := cellB b0 rfl; have p2 : w1.cell? ⟨w.heap.size, 2, none⟩ = some (.int .i64 k) := cellB b0 rfl; have p3 : w1.cell? ⟨w.heap.size, 3, none⟩ = some (.int .i64 i) := cellB b0 rfl; have p4 : w1.cell? ⟨w.heap.size, 4, none⟩ = some (.int .i64 c) := cellB b0 rfl; have p5 : w1.cell? ⟨w.heap.size, 5, none⟩ = some (.string h) := cellB b0 rfl; have q2 : w1.cell? ⟨w.heap.size + 1, 2, none⟩ = some (.int .i64 7) := cellB b1 rfl; have q3 : w1.cell? ⟨w.heap.size + 1, 3, none⟩ = some (.int .i64 i') := cellB b1 rfl))
          go_wp2_with (first | (go_at_call 104; refine (hS2 _).mono ?_; rintro e w2 ⟨rfl, hb2⟩))
          go_ret
          exact ⟨by simp, hB.trans (hb2.mono hB.size)⟩
      · have hk2 : (k' != 7) = true := by simpa using hk
        go_enter Tryd.func100, Tryd.ntmps100
        go_wp2_with (first | (go_at_call 104; refine (hS1 _).mono ?_; rintro e w1 ⟨rfl, hb⟩; obtain ⟨b0, b1, hB, _⟩ := two_new hb; have q2 : w1.cell? ⟨w.heap.size + 1, 2, none⟩ = some (.int .i64 k') := cellB b1 rfl))
        go_ret
        exact ⟨by simp [hk], hB⟩

theorem cell_put_other (w : World) {p a : Addr} (h : a.block ≠ p.block) (u : Value) : (w.setCell p u).cell? a = w.cell? a := World.cell?_of_block (heap_setCell_other _ _ _ _ h)
theorem below_setRow {n : Nat} {w w' : World} {g : Nat} (h : Below n w w') (hg : n ≤ g) (c : Array Value) : Below n w (w'.setRow g c) :=
  ⟨by simpa using h.os, by simpa using h.tape, by simpa using h.output, by simpa using h.size, fun k hk => (setRow_other w' g k c (by omega)).trans (h.block k hk)⟩

/-! The program's sets: sixty marks, as a value. -/
def setC (m : List Bool) : Array Value := (m.map Value.bool).toArray
theorem setC_size (m : List Bool) : (setC m).size = m.length := by simp [setC]
theorem setC_one {m : List Bool} : ∀ v ∈ setC m, v.oneCell' = true := by
  intro v hv
  simp only [setC, List.mem_toArray, List.mem_map] at hv
  obtain ⟨b, _, rfl⟩ := hv
  rfl
theorem setC_get {m : List Bool} {j : Nat} {b : Bool} (h : m[j]? = some b) : (setC m)[j]? = some (.bool b) := by simp [setC, h]
theorem setC_set (m : List Bool) (j : Nat) (b : Bool) : (setC m).setIfInBounds j (.bool b) = setC (m.set j b) := by simp [setC, List.map_set]
theorem setC_inj {a b : List Bool} (h : setC a = setC b) : a = b := by
  have h1 : a.map Value.bool = b.map Value.bool := by
    have := congrArg Array.toList h
    simpa [setC] using this
  exact List.map_inj_right (fun _ _ e => by injection e) |>.1 h1
structure SetIn (w : World) (g : Nat) (m : List Bool) : Prop where
  blk : w.heap[g]? = some (.cells (setC m) 156 (0, 0))
  n : m.length = 60
def zeroM60 : List Bool := List.replicate 60 false
def loadQ (p : Value) : Sem Value := Instr.loadAt 156 p
def storeQ (p v : Value) : Sem Unit := Instr.storeAt 156 p v
theorem loadQ_fold (p : Value) : Instr.loadAt 156 p = loadQ p := rfl
theorem storeQ_fold (p v : Value) : Instr.storeAt 156 p v = storeQ p v := rfl
theorem zeroQ_fold (w : World) : (zeroValue 156).run Tryd.prog w = .ok (.agg (setC zeroM60)) w := Tryd.zeroValue156 w
theorem info60 : (Tryd.prog.info? 156).map (·.size) = some 60 := by
  have h := Tryd.sizeOf156 { heap := #[], tape := default, drawn := default, os := default, output := default }
  generalize Tryd.prog = P at *
  cases hq : P.info? 156 with
  | none => simp [sizeOf, typeInfo, hq] at h
  | some i => simp [sizeOf, typeInfo, hq] at h; simp [h]
theorem loadVar60 {w : World} {g : Nat} {m : List Bool} (h : SetIn w g m) : (loadVar 156 ⟨g, 0, none⟩).run Tryd.prog w = .ok (.agg (setC m)) w :=
  run_loadVar_row w g _ _ (setC m) _ _ h.blk Tryd.underlying156 rfl (by rw [setC_size, h.n]; exact info60)
theorem SetIn.loadQ {w : World} {g : Nat} {m : List Bool} (h : SetIn w g m) : (loadQ (.pointer (some ⟨g, 0, none⟩))).run Tryd.prog w = .ok (.agg (setC m)) w := by
  simp only [Go.Proofs.YtdfndcbakcmgiabDoor.loadQ, Instr.loadAt, Instr.sureAddr, Sem.run_bind, Sem.run_pure, Result.andThen]
  exact loadVar60 h
theorem storeQ_run {w : World} {g : Nat} {old m : List Bool} (h : SetIn w g old) (hm : m.length = 60) :
    (storeQ (.pointer (some ⟨g, 0, none⟩)) (.agg (setC m))).run Tryd.prog w = .ok () (w.setRow g (setC m)) := by
  simp only [Go.Proofs.YtdfndcbakcmgiabDoor.storeQ, Instr.storeAt, Instr.sureAddr, Sem.run_bind, Sem.run_pure, Result.andThen]
  exact run_storeVar_row w g _ _ (setC old) (setC m) h.blk (by rw [setC_size, hm]; exact info60) (by rw [setC_size, setC_size, h.n, hm]) (Array.all_eq_true_iff_forall_mem.2 fun v hv => setC_one v hv)
theorem SetIn.cell {w : World} {g : Nat} {m : List Bool} (h : SetIn w g m) {j : Nat} {b : Bool} (hb : m[j]? = some b) : w.cell? ⟨g, j, none⟩ = some (.bool b) := cellB h.blk (setC_get hb)
theorem SetIn.z {w : World} {g : Nat} {m : List Bool} (h : SetIn w g m) : ∀ j, w.frozen? ⟨g, j, none⟩ = false := fun j => frozen_of_row _ _ j _ _ h.blk
theorem SetIn.lt {w : World} {g : Nat} {m : List Bool} (h : SetIn w g m) : g < w.heap.size := (Array.getElem?_eq_some_iff.1 h.blk).1
theorem SetIn.below {w w' : World} {g : Nat} {m : List Bool} (h : SetIn w g m) (hb : Below w.heap.size w w') : SetIn w' g m :=
  ⟨by rw [hb.block g h.lt]; exact h.blk, h.n⟩
theorem SetIn.put {w : World} {g : Nat} {m : List Bool} (h : SetIn w g m) (j : Nat) (b : Bool) : SetIn (w.setCell ⟨g, j, none⟩ (.bool b)) g (m.set j b) :=
  ⟨by rw [← setC_set]; exact heap_setCell_same _ _ _ _ _ _ h.blk, by simpa using h.n⟩
theorem SetIn.setRow {w : World} {g : Nat} {old m : List Bool} (h : SetIn w g old) (hm : m.length = 60) : SetIn (w.setRow g (setC m)) g m := ⟨setRow_heap w g _ _ _ _ h.blk, hm⟩
theorem SetIn.new (w : World) {m : List Bool} (hm : m.length = 60) : SetIn (w.alloc (.cells (setC m) 156)) w.heap.size m := ⟨heap_alloc_new _ _, hm⟩
theorem SetIn.old {w : World} {g : Nat} {m : List Bool} (h : SetIn w g m) (o : Obj) : SetIn (w.alloc o) g m := h.below ((Below.refl _ _).alloc (Nat.le_refl _) o)
theorem SetIn.other {w : World} {g : Nat} {m : List Bool} (h : SetIn w g m) {p : Addr} (hp : p.block ≠ g) (u : Value) : SetIn (w.setCell p u) g m := ⟨by rw [heap_setCell_other _ _ _ _ (fun e => hp e.symm)]; exact h.blk, h.n⟩
theorem SetIn.rowOther {w : World} {g g' : Nat} {m : List Bool} (h : SetIn w g m) (hne : g ≠ g') (c : Array Value) : SetIn (w.setRow g' c) g m := ⟨by rw [setRow_other _ _ _ _ hne]; exact h.blk, h.n⟩
end Go.Proofs.YtdfndcbakcmgiabDoor
namespace Go.Proofs.YtdfndcbakcmgiabDoor
open Go.RowKit

/-! Marks, along any relation of events that lead to one another. -/
def addL (ld : Nat → Nat → Bool) (j i : Nat) (m : List Bool) : List Bool :=
  if i < j then addL ld j (i + 1) (if ld i j = true then m.set i true else m) else m
termination_by j - i
def aheadP (ld : Nat → Nat → Bool) : Nat → List Bool → List Bool
  | 0, m => m
  | k + 1, m => aheadP ld k (if m[k + 1]?.getD false = true then addL ld (k + 1) 0 m else m)
def aheadS (ld : Nat → Nat → Bool) (j : Nat) : List Bool := aheadP ld j (zeroM60.set j true)
theorem addL_len (ld : Nat → Nat → Bool) (j : Nat) : ∀ (d i : Nat) (m : List Bool), j - i = d → (addL ld j i m).length = m.length := by
  intro d
  induction d with
  | zero => intro i m hd; rw [addL, if_neg (by omega)]
  | succ d ih =>
    intro i m hd
    rw [addL, if_pos (by omega), ih (i + 1) _ (by omega)]
    split
    · simp
    · rfl
theorem aheadP_len (ld : Nat → Nat → Bool) : ∀ (k : Nat) (m : List Bool), (aheadP ld k m).length = m.length
  | 0, m => rfl
  | k + 1, m => by
    rw [aheadP, aheadP_len ld k]
    split
    · exact addL_len ld _ _ _ _ rfl
    · rfl
theorem aheadS_len (ld : Nat → Nat → Bool) (j : Nat) : (aheadS ld j).length = 60 := by rw [aheadS, aheadP_len]; simp [zeroM60]

/-- Moves, as they lie in a row. -/
def MvsAt (w : World) (g : Nat) (l : List Mv) : Prop := ∀ j a, l[j]? = some a → w.rangeAt g (j * 6) a.cells.toList
theorem MvsAt.below {w w' : World} {g : Nat} {l : List Mv} (h : MvsAt w g l) (hb : Below w.heap.size w w') : MvsAt w' g l := fun j a ha k v hv => by
  have := h j a ha k v hv
  rw [hb.cell (World.block_lt_of_cell? w _ this)]; exact this
def ldL (l : List Mv) (i k : Nat) : Bool := (l[i]?.bind fun a => l[k]?.map fun b => ldB a b).getD false
theorem ldL_at {l : List Mv} {i k : Nat} {a b : Mv} (ha : l[i]? = some a) (hb : l[k]? = some b) : ldL l i k = ldB a b := by rw [ldL, ha, hb]; rfl

def loadV (p : Value) : Sem Value := Instr.loadAt 88 p
theorem loadV_fold (p : Value) : Instr.loadAt 88 p = loadV p := rfl
theorem info6 : (Tryd.prog.info? 88).map (·.size) = some 6 := by
  have h := Tryd.sizeOf88 { heap := #[], tape := default, drawn := default, os := default, output := default }
  generalize Tryd.prog = P at *
  cases hq : P.info? 88 with
  | none => simp [sizeOf, typeInfo, hq] at h
  | some i => simp [sizeOf, typeInfo, hq] at h; simp [h]
theorem MvsAt.loadV {w : World} {g : Nat} {l : List Mv} (h : MvsAt w g l) {j : Nat} {a : Mv} (ha : l[j]? = some a) : (loadV (.pointer (some ⟨g, j * 6, none⟩))).run Tryd.prog w = .ok (.agg a.cells) w :=
  run_loadAt_mid w g (j * 6) 88 a.cells.toList _ (h j a ha) Tryd.underlying88 rfl info6

theorem Has_any (a : Option Addr) (c n : Nat) (Wn : Value) (w : World) (i : Int) :
    Calls Tryd.prog 81 #[.agg #[.slice a n c, Wn], .int .i64 i] w fun e w' => e = .returned (.bool (decide (0 ≤ i ∧ i < n))) ∧ Below w.heap.size w w' := by
  by_cases h0 : 0 ≤ i
  · by_cases h1 : i < n
    · rw [decide_eq_true ⟨h0, h1⟩]
      go_enter Tryd.func81, Tryd.ntmps81
      go_wp2
      go_ret
      exact ⟨rfl, (Below.refl _ _).alloc (Nat.le_refl _) _⟩
    · rw [decide_eq_false (fun h => h1 h.2)]
      go_enter Tryd.func81, Tryd.ntmps81
      go_wp2
      go_ret
      exact ⟨rfl, (Below.refl _ _).alloc (Nat.le_refl _) _⟩
  · rw [decide_eq_false (fun h => h0 h.1)]
    go_enter Tryd.func81, Tryd.ntmps81
    go_wp2
    go_ret
    exact ⟨rfl, (Below.refl _ _).alloc (Nat.le_refl _) _⟩

attribute [local go_sem ↓] loadQ_fold storeQ_fold zeroQ_fold loadV_fold

set_option maxRecDepth 100000 in
set_option maxHeartbeats 2000000 in
theorem addLeading_any (g c : Nat) (Wn : Value) (l : List Mv) (m : List Bool) (hm : m.length = 60) (w : World) (hE : MvsAt w g l) (j : Nat) (hj : j < l.length) (hl : l.length ≤ 60) (y : Int) (hy : y = j) :
    Calls Tryd.prog 92 #[.agg #[.slice (some ⟨g, 0, none⟩) l.length c, Wn], .agg (setC m), .int .i64 y] w fun e w' => e = .returned (.agg (setC (addL (ldL l) j 0 m))) ∧ Below w.heap.size w w' := by
  subst hy
  generalize hres : addL (ldL l) j 0 m = res
  have HR : Hid (addL (ldL l) j 0 m = res) := hres
  clear hres
  obtain ⟨b, hb⟩ : ∃ b, l[j]? = some b := ⟨l[j], by simp [hj]⟩
  have s1 : SetIn (((w.alloc (.cells #[.slice (some ⟨g, 0, none⟩) l.length c, Wn] 52)).alloc (.cells (setC m) 156)).alloc (.cells (setC zeroM60) 156)) (w.heap.size + 1) m := SetIn.old ⟨heap_alloc2_new _ _ _, hm⟩ _
  have s2 : SetIn (((w.alloc (.cells #[.slice (some ⟨g, 0, none⟩) l.length c, Wn] 52)).alloc (.cells (setC m) 156)).alloc (.cells (setC zeroM60) 156)) (w.heap.size + 2) zeroM60 := ⟨by simpa using heap_alloc_new ((w.alloc (.cells #[.slice (some ⟨g, 0, none⟩) l.length c, Wn] 52)).alloc (.cells (setC m) 156)) (.cells (setC zeroM60) 156), rfl⟩
  have s0 : (((w.alloc (.cells #[.slice (some ⟨g, 0, none⟩) l.length c, Wn] 52)).alloc (.cells (setC m) 156)).alloc (.cells (setC zeroM60) 156)).cell? ⟨w.heap.size, 0, none⟩ = some (.slice (some ⟨g, 0, none⟩) l.length c) := cell_later ((Below.refl _ _).alloc (Nat.le_refl _) _) (cellB (heap_alloc2_old _ _ _) rfl)
  have hB0 : Below w.heap.size w (((w.alloc (.cells #[.slice (some ⟨g, 0, none⟩) l.length c, Wn] 52)).alloc (.cells (setC m) 156)).alloc (.cells (setC zeroM60) 156)) := (two_new ((Below.refl _ _).alloc (Nat.le_refl _) _)).2.2.1
  go_enter Tryd.func92, Tryd.ntmps92
  go_wp2
  go_loopw [7] (fun x wr => ∃ (k : Nat) (m : List Bool), k ≤ j ∧ x = .int .i64 k ∧ Hid (addL (ldL l) j k m = res) ∧ SetIn wr (w.heap.size + 1) m ∧ SetIn wr (w.heap.size + 2) zeroM60 ∧ wr.cell? ⟨w.heap.size, 0, none⟩ = some (.slice (some ⟨g, 0, none⟩) l.length c) ∧ Below w.heap.size w wr) (fun x _ => j - (intOf x).toNat)
  case atStart => exact ⟨0, m, by omega, rfl, HR, s1, s2, s0, hB0⟩
  case round =>
    obtain ⟨k, m, hk, rfl, HE, t1, t2, t0, hBr⟩ := hrel
    clear HR s0 s1 s2 hB0
    by_cases hkj : k < j
    · have hkl : k < l.length := by omega
      obtain ⟨a, ha⟩ : ∃ a, l[k]? = some a := ⟨l[k], by simp [hkl]⟩
      have hEr := hE.below hBr
      have HE1 : Hid (addL (ldL l) j (k + 1) (if ldB a b = true then m.set k true else m) = res) := by
        have h := HE.out
        rw [addL, if_pos hkj, ldL_at ha hb] at h
        exact h
      have hLd := fun w => leads_any a b w
      generalize ldB a b = d at *
      obtain ⟨q, hq⟩ : ∃ q, m[k]? = some q := ⟨m[k]'(by rw [t1.n]; omega), by simp⟩
      have k0 : (0 : Int) ≤ (k : Int) := by omega
      have kl : (k : Int) < (l.length : Int) := by omega
      have j0 : (0 : Int) ≤ (j : Int) := by omega
      have jl : (j : Int) < (l.length : Int) := by omega
      have k60 : (k : Int) < 60 := by omega
      have kj : (k : Int) < (j : Int) := by omega
      clear HE
      go_upto_region 4 with fail
      go_region_held3 (fun w' => w'.cell? ⟨w.heap.size, 0, none⟩ = some (.slice (some ⟨g, 0, none⟩) l.length c) ∧ (loadV (.pointer (some ⟨g, k * 6, none⟩))).run Tryd.prog w' = .ok (.agg a.cells) w' ∧ (loadV (.pointer (some ⟨g, j * 6, none⟩))).run Tryd.prog w' = .ok (.agg b.cells) w')
        (first | (refine ⟨cell_later ?_ t0, (hEr.below ?_).loadV ha, (hEr.below ?_).loadV hb⟩ <;> first | exact Below.refl _ _ | exact (Below.refl _ _).drew | exact hx1 | exact hx1.drew) | go_keep)
        (first | (go_at_call 100; refine (hLd _).mono ?_; rintro e w2 ⟨rfl, hbb⟩; have hx1 : Below wr.heap.size wr w2 := (by first | exact hbb | exact below_of_drew hbb)))
      have u1 := t1.below hx1
      have u2 := t2.below hx1
      have u0 := cell_later hx1 t0
      have hBw := hBr.trans (hx1.mono hBr.size)
      have cq := u1.cell hq
      have zq := u1.z k
      clear hEr t0 t1 t2
      cases d with
      | true =>
        rw [if_pos rfl] at HE1
        go_wp2
        go_roundw
        case rel => exact ⟨k + 1, m.set k true, by omega, rfl, HE1, u1.put k true, u2.other (by simp) _, by rw [World.cell?_of_block (w := w2) (heap_setCell_other _ _ _ _ (by simp))]; exact u0, hBw.setCell (by simp) _⟩
        case measure => (simp [intOf]; omega)
      | false =>
        rw [if_neg (by simp)] at HE1
        go_wp2
        go_roundw
        case rel => exact ⟨k + 1, m, by omega, rfl, HE1, u1, u2, u0, hBw⟩
        case measure => (simp [intOf]; omega)
    · have hke : k = j := by omega
      have hres : res = m := by have h := HE.out; rw [addL, if_neg hkj] at h; exact h.symm
      subst hres
      have hld := t1.loadQ
      have hst := storeQ_run t2 t1.n
      have hfin := t2.setRow t1.n
      have kj : ¬ (k : Int) < (j : Int) := by omega
      clear HE
      go_wp2
      exact bodyPost_ret (v := .agg (setC res)) (results_cell_row Tryd.results92 _ _ (w.heap.size + 2) _ _ _ _ rfl hfin.blk Tryd.underlying156 rfl (by rw [setC_size, t1.n]; exact info60)) rfl ⟨rfl, below_setRow hBr (by omega) _⟩
end Go.Proofs.YtdfndcbakcmgiabDoor
namespace Go.Proofs.YtdfndcbakcmgiabDoor
open Go.RowKit

/-! What comes ahead, as chains. -/
/-- Event i comes ahead of j. -/
inductive Ch (ld : Nat → Nat → Bool) (j : Nat) : Nat → Prop
  | one {i : Nat} : i < j → ld i j = true → Ch ld j i
  | more {i k : Nat} : i < k → ld i k = true → Ch ld j k → Ch ld j i
theorem Ch.lt {ld : Nat → Nat → Bool} {j i : Nat} (h : Ch ld j i) : i < j := by
  induction h with
  | one h _ => exact h
  | more h _ _ ih => omega
theorem Ch.trans {ld : Nat → Nat → Bool} {j k i : Nat} (h : Ch ld k i) (hk : Ch ld j k) : Ch ld j i := by
  induction h with
  | one h1 h2 => exact .more h1 h2 hk
  | more h1 h2 _ ih => exact .more h1 h2 ih

theorem addL_iff (ld : Nat → Nat → Bool) (j : Nat) : ∀ (d i : Nat) (m : List Bool), j - i = d → j ≤ m.length → ∀ x, (addL ld j i m)[x]? = some true ↔ (m[x]? = some true ∨ (i ≤ x ∧ x < j ∧ ld x j = true)) := by
  intro d
  induction d with
  | zero =>
    intro i m hd hj x
    rw [addL, if_neg (by omega)]
    constructor
    · exact .inl
    · rintro (h | ⟨h1, h2, _⟩)
      · exact h
      · omega
  | succ d ih =>
    intro i m hd hj x
    rw [addL, if_pos (by omega)]
    by_cases hc : ld i j = true
    · rw [if_pos hc, ih (i + 1) _ (by omega) (by simpa using hj), List.getElem?_set]
      by_cases hx : i = x
      · subst hx
        rw [if_pos rfl, if_pos (by omega)]
        exact ⟨fun _ => .inr ⟨Nat.le_refl _, by omega, hc⟩, fun _ => .inl rfl⟩
      · rw [if_neg hx]
        constructor
        · rintro (h | ⟨h1, h2, h3⟩)
          · exact .inl h
          · exact .inr ⟨by omega, h2, h3⟩
        · rintro (h | ⟨h1, h2, h3⟩)
          · exact .inl h
          · exact .inr ⟨by omega, h2, h3⟩
    · rw [if_neg hc, ih (i + 1) _ (by omega) hj]
      constructor
      · rintro (h | ⟨h1, h2, h3⟩)
        · exact .inl h
        · exact .inr ⟨by omega, h2, h3⟩
      · rintro (h | ⟨h1, h2, h3⟩)
        · exact .inl h
        · by_cases hx : x = i
          · subst hx; exact absurd h3 hc
          · exact .inr ⟨by omega, h2, h3⟩

theorem getD_true {m : List Bool} {k : Nat} : m[k]?.getD false = true ↔ m[k]? = some true := by cases m[k]? <;> simp
theorem aheadP_iff (ld : Nat → Nat → Bool) (j : Nat) : ∀ (k : Nat) (m : List Bool), k < m.length → m[j]? = some true → (∀ x, m[x]? = some true → x = j ∨ Ch ld j x) → (∀ y, k < y → m[y]? = some true → ∀ x, x < y → ld x y = true → m[x]? = some true) →
    ∀ x, (aheadP ld k m)[x]? = some true ↔ (x = j ∨ Ch ld j x)
  | 0, m, hk, hj, h1, h2, x => by
    rw [aheadP]
    constructor
    · exact h1 x
    · rintro (rfl | h)
      · exact hj
      · induction h with
        | one h3 h4 => exact h2 j (by omega) hj _ h3 h4
        | @more i k h3 h4 _ ih => exact h2 k (by omega) ih _ h3 h4
  | k + 1, m, hk, hj, h1, h2, x => by
    rw [aheadP]
    by_cases hm : m[k + 1]?.getD false = true
    · rw [if_pos hm]
      have hm' := getD_true.1 hm
      have hiff := addL_iff ld (k + 1) _ 0 m rfl (by omega)
      refine aheadP_iff ld j k _ (by rw [addL_len ld _ _ _ _ rfl]; omega) ((hiff j).2 (.inl hj)) ?_ ?_ x
      · intro y hy
        rcases (hiff y).1 hy with h | ⟨_, h4, h5⟩
        · exact h1 y h
        · rcases h1 (k + 1) hm' with h6 | h6
          · subst h6; exact .inr (.one h4 h5)
          · exact .inr (.more h4 h5 h6)
      · intro y hy hmy z hz hl
        rw [hiff]
        by_cases hyk : y = k + 1
        · subst hyk; exact .inr ⟨Nat.zero_le _, hz, hl⟩
        · rcases (hiff y).1 hmy with h | ⟨_, h4, _⟩
          · exact .inl (h2 y (by omega) h z hz hl)
          · omega
    · rw [if_neg hm]
      refine aheadP_iff ld j k _ (by omega) hj h1 ?_ x
      intro y hy hmy z hz hl
      by_cases hyk : y = k + 1
      · subst hyk; exact absurd (getD_true.2 hmy) hm
      · exact h2 y (by omega) hmy z hz hl
theorem aheadS_iff (ld : Nat → Nat → Bool) (j : Nat) (hj : j < 60) (x : Nat) : (aheadS ld j)[x]? = some true ↔ (x = j ∨ Ch ld j x) := by
  refine aheadP_iff ld j j _ (by simpa [zeroM60] using hj) (by rw [List.getElem?_set, if_pos rfl, if_pos (by simpa [zeroM60] using hj)]) (fun y hy => ?_) (fun y hy hm => ?_) x
  · rw [List.getElem?_set] at hy
    split at hy
    · rename_i e; exact .inl e.symm
    · rw [zeroM60, List.getElem?_replicate] at hy
      split at hy <;> simp at hy
  · rw [List.getElem?_set, if_neg (by omega), zeroM60, List.getElem?_replicate] at hm
    split at hm <;> simp at hm
end Go.Proofs.YtdfndcbakcmgiabDoor
namespace Go.Proofs.YtdfndcbakcmgiabDoor
open Go.RowKit
attribute [local go_sem ↓] loadQ_fold storeQ_fold zeroQ_fold loadV_fold

set_option maxRecDepth 100000 in
set_option maxHeartbeats 2000000 in
theorem aheadT_any (g c : Nat) (Wn : Value) (l : List Mv) (w : World) (hE : MvsAt w g l) (j : Nat) (hj : j < l.length) (hl : l.length ≤ 60) (y : Int) (hy : y = j) :
    Calls Tryd.prog 91 #[.agg #[.slice (some ⟨g, 0, none⟩) l.length c, Wn], .int .i64 y] w fun e w' => e = .returned (.agg (setC (aheadS (ldL l) j))) ∧ Below w.heap.size w w' := by
  subst hy
  generalize hres : aheadS (ldL l) j = res
  have HR : Hid (aheadP (ldL l) j (zeroM60.set j true) = res) := hres
  clear hres
  have hz60 : zeroM60.length = 60 := rfl
  have s2 : SetIn (((w.alloc (.cells #[.slice (some ⟨g, 0, none⟩) l.length c, Wn] 52)).alloc (.cells (setC zeroM60) 156)).alloc (.cells (setC zeroM60) 156)) (w.heap.size + 2) zeroM60 := ⟨by simpa using heap_alloc_new ((w.alloc (.cells #[.slice (some ⟨g, 0, none⟩) l.length c, Wn] 52)).alloc (.cells (setC zeroM60) 156)) (.cells (setC zeroM60) 156), rfl⟩
  have s1 : SetIn (((w.alloc (.cells #[.slice (some ⟨g, 0, none⟩) l.length c, Wn] 52)).alloc (.cells (setC zeroM60) 156)).alloc (.cells (setC zeroM60) 156)) (w.heap.size + 1) zeroM60 := SetIn.old ⟨heap_alloc2_new _ _ _, rfl⟩ _
  have s0 : ∀ (i : Nat) (v : Value), #[.slice (some ⟨g, 0, none⟩) l.length c, Wn][i]? = some v → (((w.alloc (.cells #[.slice (some ⟨g, 0, none⟩) l.length c, Wn] 52)).alloc (.cells (setC zeroM60) 156)).alloc (.cells (setC zeroM60) 156)).cell? ⟨w.heap.size, i, none⟩ = some v := fun i v hv => cell_later ((Below.refl _ _).alloc (Nat.le_refl _) _) (cellB (heap_alloc2_old _ _ _) hv)
  have a0 : (((w.alloc (.cells #[.slice (some ⟨g, 0, none⟩) l.length c, Wn] 52)).alloc (.cells (setC zeroM60) 156)).alloc (.cells (setC zeroM60) 156)).cell? ⟨w.heap.size, 0, none⟩ = some (.slice (some ⟨g, 0, none⟩) l.length c) := s0 0 _ rfl
  have a1 : (((w.alloc (.cells #[.slice (some ⟨g, 0, none⟩) l.length c, Wn] 52)).alloc (.cells (setC zeroM60) 156)).alloc (.cells (setC zeroM60) 156)).cell? ⟨w.heap.size, 1, none⟩ = some Wn := s0 1 _ rfl
  have hB0 : Below w.heap.size w (((w.alloc (.cells #[.slice (some ⟨g, 0, none⟩) l.length c, Wn] 52)).alloc (.cells (setC zeroM60) 156)).alloc (.cells (setC zeroM60) 156)) := (two_new ((Below.refl _ _).alloc (Nat.le_refl _) _)).2.2.1
  have hst0 := storeQ_run s2 hz60
  have r2 := s2.setRow hz60
  have cj : (((((w.alloc (.cells #[.slice (some ⟨g, 0, none⟩) l.length c, Wn] 52)).alloc (.cells (setC zeroM60) 156)).alloc (.cells (setC zeroM60) 156)).setRow (w.heap.size + 2) (setC zeroM60))).cell? ⟨w.heap.size + 2, j, none⟩ = some (.bool false) := r2.cell (by rw [zeroM60, List.getElem?_replicate, if_pos (by omega)])
  have zj := r2.z j
  have j0 : (0 : Int) ≤ (j : Int) := by omega
  have j60 : (j : Int) < 60 := by omega
  clear s0
  go_enter Tryd.func91, Tryd.ntmps91
  go_wp2
  go_loopw [6] (fun x wr => ∃ (k : Nat) (m : List Bool), k ≤ j ∧ x = .int .i64 k ∧ Hid (aheadP (ldL l) k m = res) ∧ SetIn wr (w.heap.size + 2) m ∧ SetIn wr (w.heap.size + 1) zeroM60 ∧ wr.cell? ⟨w.heap.size, 0, none⟩ = some (.slice (some ⟨g, 0, none⟩) l.length c) ∧ wr.cell? ⟨w.heap.size, 1, none⟩ = some Wn ∧ Below w.heap.size w wr) (fun x _ => (intOf x).toNat)
  case atStart =>
    refine ⟨j, zeroM60.set j true, by omega, rfl, HR, r2.put j true, (s1.rowOther (by omega) _).other (by simp <;> omega) _, ?_, ?_, (below_setRow hB0 (by omega) _).setCell (by simp <;> omega) _⟩
    · rw [cell_put_other _ (by simp <;> omega), cell_setRow_other _ _ _ _ (show w.heap.size ≠ w.heap.size + 2 by omega)]; exact a0
    · rw [cell_put_other _ (by simp <;> omega), cell_setRow_other _ _ _ _ (show w.heap.size ≠ w.heap.size + 2 by omega)]; exact a1
  case round =>
    obtain ⟨k, m, hk, rfl, HE, t2, t1, t0, t0', hBr⟩ := hrel
    clear HR s1 s2 hB0 hst0 r2 cj zj a0 a1
    cases k with
    | zero =>
      have hres : res = m := by have h := HE.out; rw [aheadP] at h; exact h.symm
      subst hres
      have hld := t2.loadQ
      have hst := storeQ_run t1 t2.n
      have hfin := t1.setRow t2.n
      clear HE
      go_wp2
      exact bodyPost_ret (v := .agg (setC res)) (results_cell_row Tryd.results91 _ _ (w.heap.size + 1) _ _ _ _ rfl hfin.blk Tryd.underlying156 rfl (by rw [setC_size, t2.n]; exact info60)) rfl ⟨rfl, below_setRow hBr (by omega) _⟩
    | succ k =>
      obtain ⟨q, hq⟩ : ∃ q, m[k + 1]? = some q := ⟨m[k + 1]'(by rw [t2.n]; omega), by simp⟩
      have HE1 : Hid (aheadP (ldL l) k (if q = true then addL (ldL l) (k + 1) 0 m else m) = res) := by
        have h := HE.out
        rw [aheadP, hq, Option.getD_some] at h
        exact h
      have cq := t2.cell hq
      have k0 : (0 : Int) ≤ ((k + 1 : Nat) : Int) := by omega
      have k0' : (0 : Int) < ((k + 1 : Nat) : Int) := by omega
      have k60 : ((k + 1 : Nat) : Int) < 60 := by omega
      clear HE hq
      cases q with
      | true =>
        rw [if_pos rfl] at HE1
        have hA := addLeading_any g c Wn l m t2.n wr (hE.below hBr) (k + 1) (by omega) hl _ rfl
        have hln : (addL (ldL l) (k + 1) 0 m).length = 60 := by rw [addL_len _ _ _ _ _ rfl]; exact t2.n
        generalize addL (ldL l) (k + 1) 0 m = m' at *
        have hld := t2.loadQ
        go_wp2_with (first | (go_at_call 92; refine hA.mono ?_; rintro e w2 ⟨rfl, hb2⟩; have u2 := t2.below hb2; have hst := storeQ_run u2 hln))
        go_roundw
        case rel =>
          refine ⟨k, m', by omega, rfl, HE1, u2.setRow hln, (t1.below hb2).rowOther (by omega) _, ?_, ?_, below_setRow (hBr.trans (hb2.mono hBr.size)) (by omega) _⟩
          · rw [cell_setRow_other _ _ _ _ (show w.heap.size ≠ w.heap.size + 2 by omega)]; exact cell_later hb2 t0
          · rw [cell_setRow_other _ _ _ _ (show w.heap.size ≠ w.heap.size + 2 by omega)]; exact cell_later hb2 t0'
        case measure => (simp [intOf])
      | false =>
        rw [if_neg (by simp)] at HE1
        go_wp2
        go_roundw
        case rel => exact ⟨k, m, by omega, rfl, HE1, t2, t1, t0, t0', hBr⟩
        case measure => (simp [intOf])

/-- What the program's Before answers of two numbers. -/
def bfL (l : List Mv) (i j : Int) : Bool := decide (0 ≤ i ∧ i < j ∧ j < l.length) && (aheadS (ldL l) j.toNat)[i.toNat]?.getD false

set_option maxRecDepth 100000 in
set_option maxHeartbeats 2000000 in
theorem BeforeT_any (g c : Nat) (Wn : Value) (l : List Mv) (w : World) (hE : MvsAt w g l) (hl : l.length ≤ 60) (i j : Int) :
    Calls Tryd.prog 85 #[.agg #[.slice (some ⟨g, 0, none⟩) l.length c, Wn], .int .i64 i, .int .i64 j] w fun e w' => e = .returned (.bool (bfL l i j)) ∧ Below w.heap.size w w' := by
  have hH := fun w => Has_any (some ⟨g, 0, none⟩) c l.length Wn w j
  have hB0 := (Below.refl w.heap.size w).alloc (Nat.le_refl _) (.cells #[.slice (some ⟨g, 0, none⟩) l.length c, Wn] 52)
  by_cases h0 : i < 0
  · have hr : bfL l i j = false := by rw [bfL, decide_eq_false (by omega)]; rfl
    rw [hr]; clear hr
    go_enter Tryd.func85, Tryd.ntmps85
    go_wp2
    go_ret
    exact ⟨rfl, hB0⟩
  by_cases h1 : j ≤ i
  · have hr : bfL l i j = false := by rw [bfL, decide_eq_false (by omega)]; rfl
    rw [hr]; clear hr
    go_enter Tryd.func85, Tryd.ntmps85
    go_wp2
    go_ret
    exact ⟨rfl, hB0⟩
  by_cases h2 : j < l.length
  · obtain ⟨a, rfl⟩ : ∃ a : Nat, i = a := ⟨i.toNat, by omega⟩
    obtain ⟨b, rfl⟩ : ∃ b : Nat, j = b := ⟨j.toNat, by omega⟩
    have hr : bfL l a b = (aheadS (ldL l) b)[a]?.getD false := by rw [bfL, decide_eq_true (by omega), Bool.true_and, Int.toNat_natCast, Int.toNat_natCast]
    rw [hr]; clear hr
    rw [decide_eq_true (by omega)] at hH
    have hA := fun w' hw => aheadT_any g c Wn l w' (MvsAt.below (w' := w') hE hw) b (by omega) hl _ rfl
    have hln := aheadS_len (ldL l) b
    generalize aheadS (ldL l) b = m at *
    obtain ⟨q, hq⟩ : ∃ q, m[a]? = some q := ⟨m[a]'(by rw [hln]; omega), by simp⟩
    have hz60 : zeroM60.length = 60 := rfl
    have a0 : (0 : Int) ≤ (a : Int) := by omega
    have a60 : (a : Int) < 60 := by omega
    rw [hq, Option.getD_some]
    go_enter Tryd.func85, Tryd.ntmps85
    go_wp2_with (first
      | (go_at_call 81; refine (hH _).mono ?_; rintro e w1 ⟨rfl, hb⟩; have hB1 := hB0.trans (hb.mono hB0.size); obtain ⟨hc, _, _, _⟩ := below_new hb; have q0 : w1.cell? ⟨w.heap.size, 0, none⟩ = some (.slice (some ⟨g, 0, none⟩) l.length c) := hc 0 _ rfl; have q1 : w1.cell? ⟨w.heap.size, 1, none⟩ = some Wn := hc 1 _ rfl; clear hc)
      | (go_at_call 91; refine (hA _ hB1).mono ?_; rintro e w2 ⟨rfl, hb2⟩; have hs2 := SetIn.new w2 hz60; have hst := storeQ_run hs2 hln; have hr2 := hs2.setRow hln; have cq := hr2.cell hq))
    go_ret
    exact ⟨rfl, below_setRow ((hB1.trans (hb2.mono hB1.size)).alloc (Nat.le_trans hB1.size hb2.size) _) (Nat.le_trans hB1.size hb2.size) _⟩
  · have hr : bfL l i j = false := by rw [bfL, decide_eq_false (by omega)]; rfl
    rw [hr]; clear hr
    rw [decide_eq_false (by omega)] at hH
    have h0' : ¬ (i < 0) := h0
    go_enter Tryd.func85, Tryd.ntmps85
    go_wp2_with (first
      | (go_at_call 81; refine (hH _).mono ?_; rintro e w1 ⟨rfl, hb⟩; have hB1 := hB0.trans (hb.mono hB0.size)))
    go_ret
    exact ⟨rfl, hB1⟩
end Go.Proofs.YtdfndcbakcmgiabDoor
