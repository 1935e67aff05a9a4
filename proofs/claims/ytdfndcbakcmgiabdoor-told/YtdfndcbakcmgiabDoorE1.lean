import Derived.Test.YtdfndcbakcmgiabDoorB4
import Derived.Test.YtdfndcbakcmgiabDoorD1
import Derived.Laws.Rows
import Derived.Laws.Tables
import Derived.Deep.RegionHeld3
import Derived.Deep.QuietTactic
import Derived.BigQuiet
namespace Go.Proofs.YtdfndcbakcmgiabDoor
open Go.RowKit

/-! The program's own machine: small functions. -/

theorem Threads_any (V : Value) (L : List (List Stp)) (w : World) (B : Nat) (hp : ProgIn w B V L) :
    Calls Tryd.prog 52 #[.agg #[V]] w fun e w' => e = .returned (.int .i64 L.length) ∧ Below w.heap.size w w' := by
  obtain ⟨g, cap, rfl, _, _⟩ := hp
  go_enter Tryd.func52, Tryd.ntmps52
  go_wp2
  go_ret
  exact ⟨rfl, (Below.refl _ _).alloc (Nat.le_refl _) _⟩

/-- How many steps thread t has. -/
def stepsN (L : List (List Stp)) (t : Int) : Nat := if t < 0 then 0 else (L[t.toNat]?.getD []).length

theorem Steps_in (V : Value) (L : List (List Stp)) (w : World) (B : Nat) (hp : ProgIn w B V L) (t : Nat) (ht : t < L.length) (i : Int) (hi : i = t) :
    Calls Tryd.prog 60 #[.agg #[V], .int .i64 i] w fun e w' => e = .returned (.int .i64 L[t].length) ∧ Below w.heap.size w w' := by
  subst hi
  obtain ⟨g, cap, rfl, _, hc⟩ := hp
  obtain ⟨v, hcell, g1, c1, rfl, _, _⟩ := hc t L[t] (by simp [ht])
  have hlt := World.block_lt_of_cell? w _ hcell
  simp only at hlt
  have n0 : ¬ ((t : Int) < 0) := by omega
  generalize L[t].length = n at *
  clear hc
  go_enter Tryd.func60, Tryd.ntmps60
  go_wp2
  go_ret
  exact ⟨rfl, (Below.refl _ _).alloc (Nat.le_refl _) _⟩
theorem Steps_out (V : Value) (L : List (List Stp)) (w : World) (B : Nat) (hp : ProgIn w B V L) (i : Int) (hi : i < 0 ∨ (L.length : Int) ≤ i) :
    Calls Tryd.prog 60 #[.agg #[V], .int .i64 i] w fun e w' => e = .returned (.int .i64 0) ∧ Below w.heap.size w w' := by
  obtain ⟨g, cap, rfl, _, hc⟩ := hp
  clear hc
  by_cases h : i < 0
  · go_enter Tryd.func60, Tryd.ntmps60
    go_wp2
    go_ret
    exact ⟨rfl, (Below.refl _ _).alloc (Nat.le_refl _) _⟩
  · have h2 : (L.length : Int) ≤ i := by omega
    go_enter Tryd.func60, Tryd.ntmps60
    go_wp2
    go_ret
    exact ⟨rfl, (Below.refl _ _).alloc (Nat.le_refl _) _⟩

theorem faultIf_any (b : Bool) (w : World) : Calls Tryd.prog 75 #[.bool b] w fun e w' => e = .returned (.tuple #[.int .i64 (if b = true then 5 else 1), .int .i64 (-1)]) ∧ w' = w := by
  cases b
  all_goals
    go_enter Tryd.func75, Tryd.ntmps75
    go_wp2
    go_ret2
    exact ⟨rfl, rfl⟩
theorem skipTo_any (a b : Int) (w : World) : Calls Tryd.prog 59 #[.int .i64 a, .int .i64 b] w fun e w' => e = .returned (.int .i64 (min a b)) ∧ w' = w := by
  by_cases h : b < a
  · have hm : min a b = b := by omega
    rw [hm]; clear hm
    go_enter Tryd.func59, Tryd.ntmps59
    go_wp2
    go_ret
    exact ⟨rfl, rfl⟩
  · have hm : min a b = a := by omega
    rw [hm]; clear hm
    go_enter Tryd.func59, Tryd.ntmps59
    go_wp2
    go_ret
    exact ⟨rfl, rfl⟩
theorem pickAt_any (s : ByteArray) (k : Nat) (i : Int) (hi : i = k) (w : World) : Calls Tryd.prog 43 #[.string s, .int .i64 i] w fun e w' => e = .returned (.int .i64 (byteI s k)) ∧ w' = w := by
  subst hi
  by_cases h : k < s.size
  · have hb : s[k].toNat < 256 := UInt8.toNat_lt s[k]
    have hb0 : (0 : Int) ≤ (s[k].toNat : Int) := Int.natCast_nonneg _
    go_enter Tryd.func43, Tryd.ntmps43
    go_wp2
    go_ret
    refine ⟨ret_int ?_, rfl⟩
    exact byteI_in h
  · go_enter Tryd.func43, Tryd.ntmps43
    go_wp2
    go_ret
    exact ⟨ret_int (by rw [byteI, dif_neg h]), rfl⟩

end Go.Proofs.YtdfndcbakcmgiabDoor
namespace Go.Proofs.YtdfndcbakcmgiabDoor
open Go.RowKit

/-! The program's own machine: Step. -/

/-- Two new blocks, as they stand in a later world. -/
theorem two_new {w w1 : World} {o1 o2 : Obj} (hb : Below ((w.alloc o1).alloc o2).heap.size ((w.alloc o1).alloc o2) w1) :
    w1.heap[w.heap.size]? = some o1 ∧ w1.heap[w.heap.size + 1]? = some o2 ∧ Below w.heap.size w w1 ∧ w.heap.size + 2 ≤ w1.heap.size := by
  have hs : ((w.alloc o1).alloc o2).heap.size = w.heap.size + 2 := by simp
  have b1 := hb.block w.heap.size (by omega)
  have b2 := hb.block (w.heap.size + 1) (by omega)
  refine ⟨?_, ?_, ?_, ?_⟩
  · rw [b1]; exact heap_alloc2_old w o1 o2
  · rw [b2]; exact heap_alloc2_new w o1 o2
  · exact (((Below.refl w.heap.size w).alloc (Nat.le_refl _) o1).alloc (by simp) o2).trans (hb.mono (by omega))
  · have := hb.size; omega

theorem cellB {w : World} {g j : Nat} {cs : Array Value} {t : TypeId} {v : Value} (h : w.heap[g]? = some (.cells cs t (0, 0))) (hj : cs[j]? = some v) : w.cell? ⟨g, j, none⟩ = some v := by
  rw [cell_of_row _ _ _ _ _ _ h]; exact hj


set_option maxHeartbeats 1000000 in
theorem Step_in (V : Value) (L : List (List Stp)) (w : World) (B : Nat) (hp : ProgIn w B V L) (t n : Nat) (ht : t < L.length) (x : Stp) (hx : L[t][n]? = some x) (i j : Int) (hi : i = t) (hj : j = n) :
    Calls Tryd.prog 73 #[.agg #[V], .int .i64 i, .int .i64 j] w fun e w' => e = .returned (.tuple #[stpV x, .bool true]) ∧ Below w.heap.size w w' := by
  subst hi hj
  have hp2 := (hp.alloc (.cells #[V] 60)).alloc (.cells #[.int .i64 0, .int .i64 0, .int .i64 0] 86)
  have hn : n < L[t].length := (List.getElem?_eq_some_iff.1 hx).1
  have hS := Steps_in V L _ B hp2 t ht _ rfl
  obtain ⟨g, cap, hV, _, hc⟩ := hp
  obtain ⟨v, hcell, g1, c1, hv, _, h3⟩ := hc t L[t] (by simp [ht])
  obtain ⟨k0, k1, k2⟩ := h3 n x hx
  rw [Nat.mul_comm 3 n] at k0 k1 k2
  subst hV hv
  clear hc h3 hp2 hx
  generalize L[t].length = len at *
  go_enter Tryd.func73, Tryd.ntmps73
  go_wp2_with (go_at_call 60; refine hS.mono ?_; rintro e w1 ⟨rfl, hb⟩; obtain ⟨b0, b1, hB, hs2⟩ := two_new hb; clear hb; have e0 : w1.cell? ⟨w.heap.size, 0, none⟩ = some (.slice (some ⟨g, 0, none⟩) L.length cap) := cellB b0 rfl; have e1 := cell_later hB hcell; have e2 := cell_later hB k0; have e3 := cell_later hB k1; have e4 := cell_later hB k2; have q0 : w1.cell? ⟨w.heap.size + 1, 0, none⟩ = some (.int .i64 0) := cellB b1 rfl; have q1 : w1.cell? ⟨w.heap.size + 1, 1, none⟩ = some (.int .i64 0) := cellB b1 rfl; have q2 : w1.cell? ⟨w.heap.size + 1, 2, none⟩ = some (.int .i64 0) := cellB b1 rfl; have z0 : ∀ j, w1.frozen? ⟨w.heap.size + 1, j, none⟩ = false := fun j => frozen_of_row _ _ j _ _ b1; clear b0 b1; have l1 := World.block_lt_of_cell? _ _ hcell; have l2 := World.block_lt_of_cell? _ _ k0)
  exact bodyPost_ret (v := .tuple #[stpV x, .bool true]) (by simp [results, Tryd.results73, go_sem, stpV, q0, q1, q2]) rfl ⟨rfl, (by repeat' (first | exact hB | refine Below.setCell ?_ (by simp) _ | refine Below.alloc ?_ (by simp; omega) _))⟩

set_option maxHeartbeats 1000000 in
theorem Step_out (V : Value) (L : List (List Stp)) (w : World) (B : Nat) (hp : ProgIn w B V L) (t n : Nat) (ht : t < L.length) (hn : L[t].length ≤ n) (i j : Int) (hi : i = t) (hj : j = n) :
    Calls Tryd.prog 73 #[.agg #[V], .int .i64 i, .int .i64 j] w fun e w' => e = .returned (.tuple #[stpV ⟨0, 0, 0⟩, .bool false]) ∧ Below w.heap.size w w' := by
  subst hi hj
  have hp2 := (hp.alloc (.cells #[V] 60)).alloc (.cells #[.int .i64 0, .int .i64 0, .int .i64 0] 86)
  have hS := Steps_in V L _ B hp2 t ht _ rfl
  clear hp2
  generalize L[t].length = len at *
  go_enter Tryd.func73, Tryd.ntmps73
  go_wp2_with (go_at_call 60; refine hS.mono ?_; rintro e w1 ⟨rfl, hb⟩; obtain ⟨b0, b1, hB, hs2⟩ := two_new hb; clear hb; have q0 : w1.cell? ⟨w.heap.size + 1, 0, none⟩ = some (.int .i64 0) := cellB b1 rfl; have q1 : w1.cell? ⟨w.heap.size + 1, 1, none⟩ = some (.int .i64 0) := cellB b1 rfl; have q2 : w1.cell? ⟨w.heap.size + 1, 2, none⟩ = some (.int .i64 0) := cellB b1 rfl; have z0 : ∀ j, w1.frozen? ⟨w.heap.size + 1, j, none⟩ = false := fun j => frozen_of_row _ _ j _ _ b1; clear b0 b1)
  exact bodyPost_ret (v := .tuple #[stpV ⟨0, 0, 0⟩, .bool false]) (by simp [results, Tryd.results73, go_sem, stpV, q0, q1, q2]) rfl ⟨rfl, (by repeat' (first | exact hB | refine Below.setCell ?_ (by simp) _ | refine Below.alloc ?_ (by simp; omega) _))⟩
end Go.Proofs.YtdfndcbakcmgiabDoor
namespace Go.Proofs.YtdfndcbakcmgiabDoor
open Go.RowKit

/-! The program's state, a value of 22 cells. -/
structure MS where
  st : List Bool
  pl : List Nat
  ow : List (Option Nat)
  fl : List Bool
structure MS.Ok (s : MS) : Prop where
  n1 : s.st.length = 5
  n2 : s.pl.length = 5
  n3 : s.ow.length = 6
  n4 : s.fl.length = 6
def ownI : Option Nat → Int
  | none => -1
  | some t => t
def MS.list (s : MS) : List Value := s.st.map Value.bool ++ (placeV s.pl ++ (s.ow.map (fun o => Value.int .i64 (ownI o)) ++ s.fl.map Value.bool))
where placeV (l : List Nat) : List Value := l.map fun (n : Nat) => Value.int .i64 (n : Int)
def MS.cells (s : MS) : Array Value := s.list.toArray

theorem MS.cells_size {s : MS} (ok : s.Ok) : s.cells.size = 22 := by simp [MS.cells, MS.list, MS.list.placeV, ok.n1, ok.n2, ok.n3, ok.n4]
theorem MS.cells_one {s : MS} : ∀ v ∈ s.cells.toList, v.oneCell' = true := by
  intro v hv
  simp only [MS.cells, MS.list, MS.list.placeV, List.mem_append, List.mem_map] at hv
  rcases hv with ⟨_, _, rfl⟩ | ⟨_, _, rfl⟩ | ⟨_, _, rfl⟩ | ⟨_, _, rfl⟩ <;> rfl
theorem MS.get_st {s : MS} {t : Nat} {b : Bool} (h : s.st[t]? = some b) : s.cells[t]? = some (.bool b) := by
  have hl : t < s.st.length := (List.getElem?_eq_some_iff.1 h).1
  simp only [MS.cells, MS.list, List.getElem?_toArray]
  rw [List.getElem?_append_left (by simpa using hl)]
  simp [h]
theorem MS.get_pl {s : MS} (ok : s.Ok) {t n : Nat} (h : s.pl[t]? = some n) : s.cells[5 + t]? = some (.int .i64 n) := by
  have hl : t < s.pl.length := (List.getElem?_eq_some_iff.1 h).1
  have h1 := ok.n1
  simp only [MS.cells, MS.list, List.getElem?_toArray]
  rw [List.getElem?_append_right (by simp; omega), List.getElem?_append_left (by simp [MS.list.placeV]; omega)]
  have : 5 + t - (s.st.map Value.bool).length = t := by simp; omega
  rw [this]
  simp [MS.list.placeV, h]
theorem MS.get_ow {s : MS} (ok : s.Ok) {t : Nat} {o : Option Nat} (h : s.ow[t]? = some o) : s.cells[10 + t]? = some (.int .i64 (ownI o)) := by
  have hl : t < s.ow.length := (List.getElem?_eq_some_iff.1 h).1
  have h1 := ok.n1
  have h2 := ok.n2
  simp only [MS.cells, MS.list, List.getElem?_toArray]
  rw [List.getElem?_append_right (by simp; omega), List.getElem?_append_right (by simp [MS.list.placeV]; omega), List.getElem?_append_left (by simp [MS.list.placeV]; omega)]
  have : 10 + t - (s.st.map Value.bool).length - (MS.list.placeV s.pl).length = t := by simp [MS.list.placeV]; omega
  rw [this]
  simp [h]
theorem MS.get_fl {s : MS} (ok : s.Ok) {t : Nat} {b : Bool} (h : s.fl[t]? = some b) : s.cells[16 + t]? = some (.bool b) := by
  have hl : t < s.fl.length := (List.getElem?_eq_some_iff.1 h).1
  have h1 := ok.n1
  have h2 := ok.n2
  have h3 := ok.n3
  simp only [MS.cells, MS.list, List.getElem?_toArray]
  rw [List.getElem?_append_right (by simp; omega), List.getElem?_append_right (by simp [MS.list.placeV]; omega), List.getElem?_append_right (by simp [MS.list.placeV]; omega)]
  have : 16 + t - (s.st.map Value.bool).length - (MS.list.placeV s.pl).length - (s.ow.map (fun o => Value.int .i64 (ownI o))).length = t := by simp [MS.list.placeV]; omega
  rw [this]
  simp [h]
theorem MS.set_st {s : MS} (ok : s.Ok) {t : Nat} (h : t < 5) (b : Bool) : s.cells.setIfInBounds t (.bool b) = { s with st := s.st.set t b : MS }.cells := by
  have h1 := ok.n1
  simp only [MS.cells, MS.list, List.setIfInBounds_toArray]
  rw [List.set_append, if_pos (by simp; omega)]
  simp [List.map_set]
theorem MS.set_pl {s : MS} (ok : s.Ok) {t : Nat} (h : t < 5) (n : Nat) : s.cells.setIfInBounds (5 + t) (.int .i64 n) = { s with pl := s.pl.set t n : MS }.cells := by
  have h1 := ok.n1
  have h2 := ok.n2
  simp only [MS.cells, MS.list, List.setIfInBounds_toArray]
  rw [List.set_append, if_neg (by simp; omega), List.set_append, if_pos (by simp [MS.list.placeV]; omega)]
  have : 5 + t - (s.st.map Value.bool).length = t := by simp; omega
  rw [this]
  simp [List.map_set, MS.list.placeV]
theorem MS.set_ow {s : MS} (ok : s.Ok) {t : Nat} (h : t < 6) (o : Option Nat) : s.cells.setIfInBounds (10 + t) (.int .i64 (ownI o)) = { s with ow := s.ow.set t o : MS }.cells := by
  have h1 := ok.n1
  have h2 := ok.n2
  have h3 := ok.n3
  simp only [MS.cells, MS.list, List.setIfInBounds_toArray]
  rw [List.set_append, if_neg (by simp; omega), List.set_append, if_neg (by simp [MS.list.placeV]; omega), List.set_append, if_pos (by simp [MS.list.placeV]; omega)]
  have : 10 + t - (s.st.map Value.bool).length - (MS.list.placeV s.pl).length = t := by simp [MS.list.placeV]; omega
  rw [this]
  simp [List.map_set]
theorem MS.set_fl {s : MS} (ok : s.Ok) {t : Nat} (b : Bool) : s.cells.setIfInBounds (16 + t) (.bool b) = { s with fl := s.fl.set t b : MS }.cells := by
  have h1 := ok.n1
  have h2 := ok.n2
  have h3 := ok.n3
  simp only [MS.cells, MS.list, List.setIfInBounds_toArray]
  rw [List.set_append, if_neg (by simp; omega), List.set_append, if_neg (by simp [MS.list.placeV]; omega), List.set_append, if_neg (by simp [MS.list.placeV]; omega)]
  have : 16 + t - (s.st.map Value.bool).length - (MS.list.placeV s.pl).length - (s.ow.map (fun o => Value.int .i64 (ownI o))).length = t := by simp [MS.list.placeV]; omega
  rw [this]
  simp [List.map_set]

/-- A state lies in block g. -/
structure StIn (w : World) (g : Nat) (s : MS) : Prop where
  blk : w.heap[g]? = some (.cells s.cells 79 (0, 0))
  ok : s.Ok

theorem ld22 {w : World} {g : Nat} {c : Array Value} {ty : TypeId} {fr : Nat × Nat} (h : w.heap[g]? = some (.cells c ty fr)) (hs : c.size = 22) : (loadCellsFrom ⟨g, 0, none⟩ 0 22 #[]).run Tryd.prog w = .ok c w := by
  have := run_loadCells_list (P := Tryd.prog) w ⟨g, 0, none⟩ c.toList (fun j v hv => by
    have hadd : (⟨g, 0, none⟩ : Addr).add j = ⟨g, j, none⟩ := by unfold Addr.add; split <;> simp_all
    rw [hadd, cell_of_row _ _ j c _ _ h]
    simpa using hv)
  simpa [loadCells, hs] using this
theorem st22 {w : World} {g : Nat} {old c : Array Value} {ty : TypeId} (h : w.heap[g]? = some (.cells old ty (0, 0))) (ho : old.size = 22) (hs : c.size = 22) (h1 : ∀ v ∈ c.toList, v.oneCell' = true) :
    (storeCells ⟨g, 0, none⟩ c.toList 0).run Tryd.prog w = .ok () (w.setRow g c) := by
  have := run_storeCells_from (P := Tryd.prog) g ty c.toList 0 old w h (by simp [ho, hs]) h1
  simpa using this
theorem StIn.load {w : World} {g : Nat} {s : MS} (h : StIn w g s) : (loadCellsFrom ⟨g, 0, none⟩ 0 22 #[]).run Tryd.prog w = .ok s.cells w := ld22 h.blk (MS.cells_size h.ok)
/-- A whole state out of its variable and into it, as names of their own: the walk's simp leaves them whole. -/
def loadS (p : Value) : Sem Value := Instr.loadAt 79 p
def storeS (p v : Value) : Sem Unit := Instr.storeAt 79 p v
theorem loadS_fold (p : Value) : Instr.loadAt 79 p = loadS p := rfl
theorem storeS_fold (p v : Value) : Instr.storeAt 79 p v = storeS p v := rfl
theorem info22 : (Tryd.prog.info? 79).map (·.size) = some 22 := by
  have h := Tryd.sizeOf79 { heap := #[], tape := default, drawn := default, os := default, output := default }
  generalize Tryd.prog = P at *
  cases hq : P.info? 79 with
  | none => simp [sizeOf, typeInfo, hq] at h
  | some i => simp [sizeOf, typeInfo, hq] at h; simp [h]
theorem loadVar22 {w : World} {g : Nat} {c : Array Value} {ty : TypeId} {fr : Nat × Nat} (h : w.heap[g]? = some (.cells c ty fr)) (hs : c.size = 22) : (loadVar 79 ⟨g, 0, none⟩).run Tryd.prog w = .ok (.agg c) w :=
  run_loadVar_row w g ty _ c fr _ h Tryd.underlying79 rfl (by rw [hs]; exact info22)
theorem StIn.loadS {w : World} {g : Nat} {s : MS} (h : StIn w g s) : (loadS (.pointer (some ⟨g, 0, none⟩))).run Tryd.prog w = .ok (.agg s.cells) w := by
  simp only [Go.Proofs.YtdfndcbakcmgiabDoor.loadS, Instr.loadAt, Instr.sureAddr, Sem.run_bind, Sem.run_pure, Result.andThen]
  exact loadVar22 h.blk (MS.cells_size h.ok)
theorem storeS_run {w : World} {g : Nat} {old : Array Value} {ty : TypeId} {s : MS} (h : w.heap[g]? = some (.cells old ty (0, 0))) (ho : old.size = 22) (ok : s.Ok) :
    (storeS (.pointer (some ⟨g, 0, none⟩)) (.agg s.cells)).run Tryd.prog w = .ok () (w.setRow g s.cells) := by
  simp only [Go.Proofs.YtdfndcbakcmgiabDoor.storeS, Instr.storeAt, Instr.sureAddr, Sem.run_bind, Sem.run_pure, Result.andThen]
  exact run_storeVar_row w g ty _ old s.cells h (by rw [MS.cells_size ok]; exact info22) (by rw [MS.cells_size ok]; exact ho) (Array.all_eq_true_iff_forall_mem.2 fun v hv => MS.cells_one (s := s) v (by simpa using hv))
theorem StIn.st {w : World} {g : Nat} {s : MS} (h : StIn w g s) {t : Nat} {b : Bool} (hb : s.st[t]? = some b) : w.cell? ⟨g, t, none⟩ = some (.bool b) := cellB h.blk (MS.get_st hb)
theorem StIn.pl {w : World} {g : Nat} {s : MS} (h : StIn w g s) {t n : Nat} (hb : s.pl[t]? = some n) : w.cell? ⟨g, 5 + t, none⟩ = some (.int .i64 n) := cellB h.blk (MS.get_pl h.ok hb)
theorem StIn.ow {w : World} {g : Nat} {s : MS} (h : StIn w g s) {t : Nat} {o : Option Nat} (hb : s.ow[t]? = some o) : w.cell? ⟨g, 10 + t, none⟩ = some (.int .i64 (ownI o)) := cellB h.blk (MS.get_ow h.ok hb)
theorem StIn.fl {w : World} {g : Nat} {s : MS} (h : StIn w g s) {t : Nat} {b : Bool} (hb : s.fl[t]? = some b) : w.cell? ⟨g, 16 + t, none⟩ = some (.bool b) := cellB h.blk (MS.get_fl h.ok hb)
theorem StIn.z {w : World} {g : Nat} {s : MS} (h : StIn w g s) : ∀ j, w.frozen? ⟨g, j, none⟩ = false := fun j => frozen_of_row _ _ j _ _ h.blk
theorem StIn.below {w w' : World} {g : Nat} {s : MS} (h : StIn w g s) (hb : Below w.heap.size w w') : StIn w' g s :=
  ⟨by rw [hb.block g (Array.getElem?_eq_some_iff.1 h.blk).1]; exact h.blk, h.ok⟩
theorem StIn.lt {w : World} {g : Nat} {s : MS} (h : StIn w g s) : g < w.heap.size := (Array.getElem?_eq_some_iff.1 h.blk).1

/-! What a thread is at. -/
def lookTake (o : Option Nat) (t : Nat) : Int × Int :=
  match o with
  | none => (1, -1)
  | some u => if u = t then (5, -1) else (2, u)
def fltIf (b : Bool) : Int × Int := if b = true then (5, -1) else (1, -1)
def pairV (p : Int × Int) : Value := .tuple #[.int .i64 p.1, .int .i64 p.2]

theorem lookAtTake_any (o : Option Nat) (t : Nat) (w : World) : Calls Tryd.prog 74 #[.int .i64 (ownI o), .int .i64 t] w fun e w' => e = .returned (pairV (lookTake o t)) ∧ w' = w := by
  cases o with
  | none =>
    show Calls Tryd.prog 74 #[.int .i64 (-1), .int .i64 t] w _
    have hn : ((-1 : Int) == (t : Int)) = false := beq_false_of_ne (by omega)
    go_enter Tryd.func74, Tryd.ntmps74
    go_wp2_with (go_at_call 75; refine (faultIf_any _ _).mono ?_; rintro e w1 ⟨rfl, rfl⟩)
    go_ret2
    exact ⟨rfl, rfl⟩
  | some u =>
    show Calls Tryd.prog 74 #[.int .i64 (u : Int), .int .i64 t] w _
    have h1 : ((u : Int) == (-1 : Int)) = false := beq_false_of_ne (by omega)
    by_cases h : u = t
    · subst h
      have hl : lookTake (some u) u = (5, -1) := by simp [lookTake]
      rw [hl]; clear hl
      go_enter Tryd.func74, Tryd.ntmps74
      go_wp2_with (go_at_call 75; refine (faultIf_any _ _).mono ?_; rintro e w1 ⟨rfl, rfl⟩)
      go_ret2
      exact ⟨rfl, rfl⟩
    · have hl : lookTake (some u) t = (2, (u : Int)) := by simp [lookTake, h]
      rw [hl]; clear hl
      have h2 : ((u : Int) == (t : Int)) = false := by simp; omega
      go_enter Tryd.func74, Tryd.ntmps74
      go_wp2_with (go_at_call 75; refine (faultIf_any _ _).mono ?_; rintro e w1 ⟨rfl, rfl⟩)
      go_ret2
      exact ⟨rfl, rfl⟩
end Go.Proofs.YtdfndcbakcmgiabDoor
namespace Go.Proofs.YtdfndcbakcmgiabDoor
open Go.RowKit

/-- What the join of thread u is at. -/
def lookJoin (L : List (List Stp)) (s : MS) (u : Nat) : Int × Int :=
  if s.st[u]? = some true ∧ (L[u]?.getD []).length ≤ s.pl[u]?.getD 0 then (1, -1) else (3, u)

set_option maxHeartbeats 1000000 in
theorem lookAtJoin_any (V : Value) (L : List (List Stp)) (s : MS) (ok : s.Ok) (w : World) (B : Nat) (hp : ProgIn w B V L) (hL : L.length ≤ 5) (u : Nat) (hu : u < L.length) (i : Int) (hi : i = u) :
    Calls Tryd.prog 76 #[.agg #[V], .agg s.cells, .int .i64 i] w fun e w' => e = .returned (pairV (lookJoin L s u)) ∧ Below w.heap.size w w' := by
  subst hi
  have hp2 := (hp.alloc (.cells #[V] 60)).alloc (.cells s.cells 79)
  have hS := fun w' hw => Steps_in V L w' B (ProgIn.below hp2 (w' := w') hw) u hu _ rfl
  obtain ⟨b, hb⟩ : ∃ b, s.st[u]? = some b := ⟨s.st[u]'(by rw [ok.n1]; omega), by simp⟩
  obtain ⟨n, hn⟩ : ∃ n, s.pl[u]? = some n := ⟨s.pl[u]'(by rw [ok.n2]; omega), by simp⟩
  have hst : StIn ((w.alloc (.cells #[V] 60)).alloc (.cells s.cells 79)) (w.heap.size + 1) s := ⟨heap_alloc2_new _ _ _, ok⟩
  have c1 := hst.st hb
  have c2 := hst.pl hn
  have hj : lookJoin L s u = if b = true ∧ L[u].length ≤ n then (1, -1) else (3, (u : Int)) := by
    simp [lookJoin, hb, hn, hu]
  have hc0 : ((w.alloc (.cells #[V] 60)).alloc (.cells s.cells 79)).cell? ⟨w.heap.size, 0, none⟩ = some V := cellB (heap_alloc2_old _ _ _) rfl
  rw [hj]
  clear hj hn hb hp2
  generalize L[u].length = len at *
  have hu5 : u < 5 := by omega
  have u0 : (0 : Int) ≤ (u : Int) := by omega
  have u5 : (u : Int) < 5 := by omega
  cases b with
  | true =>
    by_cases h : len ≤ n
    · rw [if_pos ⟨rfl, h⟩]
      go_enter Tryd.func76, Tryd.ntmps76
      go_wp2
      go_region_held3 (fun w' => w'.cell? ⟨w.heap.size + 1, u, none⟩ = some (.bool true) ∧ w'.cell? ⟨w.heap.size + 1, 5 + u, none⟩ = some (.int .i64 n) ∧ w'.cell? ⟨w.heap.size, 0, none⟩ = some V) (first | exact ⟨c1, c2, hc0⟩ | exact ⟨cell_later hb1 c1, cell_later hb1 c2, cell_later hb1 hc0⟩ | go_keep)
        (first | (go_at_call 60; refine (hS _ (by first | exact Below.refl _ _ | exact (Below.refl _ _).drew | exact below_drewN _ _)).mono ?_; rintro e w1 ⟨rfl, hb⟩; have hb1 : Below ((w.alloc (.cells #[V] 60)).alloc (.cells s.cells 79)).heap.size ((w.alloc (.cells #[V] 60)).alloc (.cells s.cells 79)) w1 := (by first | exact hb | exact below_of_drewN (n := 1) hb | exact below_of_drewN hb); clear hb))
      go_wp2
      go_ret2
      exact ⟨rfl, (two_new hb1).2.2.1⟩
    · rw [if_neg (fun hh => h hh.2)]
      go_enter Tryd.func76, Tryd.ntmps76
      go_wp2
      go_region_held3 (fun w' => w'.cell? ⟨w.heap.size + 1, u, none⟩ = some (.bool true) ∧ w'.cell? ⟨w.heap.size + 1, 5 + u, none⟩ = some (.int .i64 n) ∧ w'.cell? ⟨w.heap.size, 0, none⟩ = some V) (first | exact ⟨c1, c2, hc0⟩ | exact ⟨cell_later hb1 c1, cell_later hb1 c2, cell_later hb1 hc0⟩ | go_keep)
        (first | (go_at_call 60; refine (hS _ (by first | exact Below.refl _ _ | exact (Below.refl _ _).drew | exact below_drewN _ _)).mono ?_; rintro e w1 ⟨rfl, hb⟩; have hb1 : Below ((w.alloc (.cells #[V] 60)).alloc (.cells s.cells 79)).heap.size ((w.alloc (.cells #[V] 60)).alloc (.cells s.cells 79)) w1 := (by first | exact hb | exact below_of_drewN (n := 1) hb | exact below_of_drewN hb); clear hb))
      go_wp2
      go_ret2
      exact ⟨rfl, (two_new hb1).2.2.1⟩
  | false =>
    rw [if_neg (fun hh => by simp at hh)]
    go_enter Tryd.func76, Tryd.ntmps76
    go_wp2
    go_quiet (fail)
    go_wp2
    go_ret2
    exact ⟨rfl, (two_new (below_drewN _ _)).2.2.1⟩
end Go.Proofs.YtdfndcbakcmgiabDoor
