import Derived.Test.YtfdbnilopfnifaaD7
namespace Go.Proofs.Ytfdbnilopfnifaa
open Go.RowKit

/-! The program's state, a value of 22 cells. -/
structure MS where
  st : List Bool
  pl : List Nat
  ow : List (Option Nat)
  fl : List Bool
structure MS.Ok (s : MS) : Prop where
  n1 : s.st.length = 5
  n2 : s.pl.length = 5
  n3 : s.ow.length = 6
  n4 : s.fl.length = 6
def ownI : Option Nat → Int
  | none => -1
  | some t => t
def MS.list (s : MS) : List Value := s.st.map Value.bool ++ (placeV s.pl ++ (s.ow.map (fun o => Value.int .i64 (ownI o)) ++ s.fl.map Value.bool))
where placeV (l : List Nat) : List Value := l.map fun (n : Nat) => Value.int .i64 (n : Int)
def MS.cells (s : MS) : Array Value := s.list.toArray

theorem MS.cells_size {s : MS} (ok : s.Ok) : s.cells.size = 22 := by simp [MS.cells, MS.list, MS.list.placeV, ok.n1, ok.n2, ok.n3, ok.n4]
theorem MS.cells_one {s : MS} : ∀ v ∈ s.cells.toList, v.oneCell' = true := by
  intro v hv
  simp only [MS.cells, MS.list, MS.list.placeV, List.mem_append, List.mem_map] at hv
  rcases hv with ⟨_, _, rfl⟩ | ⟨_, _, rfl⟩ | ⟨_, _, rfl⟩ | ⟨_, _, rfl⟩ <;> rfl
theorem MS.get_st {s : MS} {t : Nat} {b : Bool} (h : s.st[t]? = some b) : s.cells[t]? = some (.bool b) := by
  have hl : t < s.st.length := (List.getElem?_eq_some_iff.1 h).1
  simp only [MS.cells, MS.list, List.getElem?_toArray]
  rw [List.getElem?_append_left (by simpa using hl)]
  simp [h]
theorem MS.get_pl {s : MS} (ok : s.Ok) {t n : Nat} (h : s.pl[t]? = some n) : s.cells[5 + t]? = some (.int .i64 n) := by
  have hl : t < s.pl.length := (List.getElem?_eq_some_iff.1 h).1
  have h1 := ok.n1
  simp only [MS.cells, MS.list, List.getElem?_toArray]
  rw [List.getElem?_append_right (by simp; omega), List.getElem?_append_left (by simp [MS.list.placeV]; omega)]
  have : 5 + t - (s.st.map Value.bool).length = t := by simp; omega
  rw [this]
  simp [MS.list.placeV, h]
theorem MS.get_ow {s : MS} (ok : s.Ok) {t : Nat} {o : Option Nat} (h : s.ow[t]? = some o) : s.cells[10 + t]? = some (.int .i64 (ownI o)) := by
  have hl : t < s.ow.length := (List.getElem?_eq_some_iff.1 h).1
  have h1 := ok.n1
  have h2 := ok.n2
  simp only [MS.cells, MS.list, List.getElem?_toArray]
  rw [List.getElem?_append_right (by simp; omega), List.getElem?_append_right (by simp [MS.list.placeV]; omega), List.getElem?_append_left (by simp [MS.list.placeV]; omega)]
  have : 10 + t - (s.st.map Value.bool).length - (MS.list.placeV s.pl).length = t := by simp [MS.list.placeV]; omega
  rw [this]
  simp [h]
theorem MS.get_fl {s : MS} (ok : s.Ok) {t : Nat} {b : Bool} (h : s.fl[t]? = some b) : s.cells[16 + t]? = some (.bool b) := by
  have hl : t < s.fl.length := (List.getElem?_eq_some_iff.1 h).1
  have h1 := ok.n1
  have h2 := ok.n2
  have h3 := ok.n3
  simp only [MS.cells, MS.list, List.getElem?_toArray]
  rw [List.getElem?_append_right (by simp; omega), List.getElem?_append_right (by simp [MS.list.placeV]; omega), List.getElem?_append_right (by simp [MS.list.placeV]; omega)]
  have : 16 + t - (s.st.map Value.bool).length - (MS.list.placeV s.pl).length - (s.ow.map (fun o => Value.int .i64 (ownI o))).length = t := by simp [MS.list.placeV]; omega
  rw [this]
  simp [h]
theorem MS.set_st {s : MS} (ok : s.Ok) {t : Nat} (h : t < 5) (b : Bool) : s.cells.setIfInBounds t (.bool b) = { s with st := s.st.set t b : MS }.cells := by
  have h1 := ok.n1
  simp only [MS.cells, MS.list, List.setIfInBounds_toArray]
  rw [List.set_append, if_pos (by simp; omega)]
  simp [List.map_set]
theorem MS.set_pl {s : MS} (ok : s.Ok) {t : Nat} (h : t < 5) (n : Nat) : s.cells.setIfInBounds (5 + t) (.int .i64 n) = { s with pl := s.pl.set t n : MS }.cells := by
  have h1 := ok.n1
  have h2 := ok.n2
  simp only [MS.cells, MS.list, List.setIfInBounds_toArray]
  rw [List.set_append, if_neg (by simp; omega), List.set_append, if_pos (by simp [MS.list.placeV]; omega)]
  have : 5 + t - (s.st.map Value.bool).length = t := by simp; omega
  rw [this]
  simp [List.map_set, MS.list.placeV]
theorem MS.set_ow {s : MS} (ok : s.Ok) {t : Nat} (h : t < 6) (o : Option Nat) : s.cells.setIfInBounds (10 + t) (.int .i64 (ownI o)) = { s with ow := s.ow.set t o : MS }.cells := by
  have h1 := ok.n1
  have h2 := ok.n2
  have h3 := ok.n3
  simp only [MS.cells, MS.list, List.setIfInBounds_toArray]
  rw [List.set_append, if_neg (by simp; omega), List.set_append, if_neg (by simp [MS.list.placeV]; omega), List.set_append, if_pos (by simp [MS.list.placeV]; omega)]
  have : 10 + t - (s.st.map Value.bool).length - (MS.list.placeV s.pl).length = t := by simp [MS.list.placeV]; omega
  rw [this]
  simp [List.map_set]
theorem MS.set_fl {s : MS} (ok : s.Ok) {t : Nat} (b : Bool) : s.cells.setIfInBounds (16 + t) (.bool b) = { s with fl := s.fl.set t b : MS }.cells := by
  have h1 := ok.n1
  have h2 := ok.n2
  have h3 := ok.n3
  simp only [MS.cells, MS.list, List.setIfInBounds_toArray]
  rw [List.set_append, if_neg (by simp; omega), List.set_append, if_neg (by simp [MS.list.placeV]; omega), List.set_append, if_neg (by simp [MS.list.placeV]; omega)]
  have : 16 + t - (s.st.map Value.bool).length - (MS.list.placeV s.pl).length - (s.ow.map (fun o => Value.int .i64 (ownI o))).length = t := by simp [MS.list.placeV]; omega
  rw [this]
  simp [List.map_set]

/-- A state lies in block g. -/
structure StIn (w : World) (g : Nat) (s : MS) : Prop where
  blk : w.heap[g]? = some (.cells s.cells 95 (0, 0))
  ok : s.Ok

theorem ld22 {w : World} {g : Nat} {c : Array Value} {ty : TypeId} {fr : Nat × Nat} (h : w.heap[g]? = some (.cells c ty fr)) (hs : c.size = 22) : (loadCellsFrom ⟨g, 0, none⟩ 0 22 #[]).run Try.prog w = .ok c w := by
  have := run_loadCells_list (P := Try.prog) w ⟨g, 0, none⟩ c.toList (fun j v hv => by
    have hadd : (⟨g, 0, none⟩ : Addr).add j = ⟨g, j, none⟩ := by unfold Addr.add; split <;> simp_all
    rw [hadd, cell_of_row _ _ j c _ _ h]
    simpa using hv)
  simpa [loadCells, hs] using this
theorem st22 {w : World} {g : Nat} {old c : Array Value} {ty : TypeId} (h : w.heap[g]? = some (.cells old ty (0, 0))) (ho : old.size = 22) (hs : c.size = 22) (h1 : ∀ v ∈ c.toList, v.oneCell' = true) :
    (storeCells ⟨g, 0, none⟩ c.toList 0).run Try.prog w = .ok () (w.setRow g c) := by
  have := run_storeCells_from (P := Try.prog) g ty c.toList 0 old w h (by simp [ho, hs]) h1
  simpa using this
theorem StIn.load {w : World} {g : Nat} {s : MS} (h : StIn w g s) : (loadCellsFrom ⟨g, 0, none⟩ 0 22 #[]).run Try.prog w = .ok s.cells w := ld22 h.blk (MS.cells_size h.ok)
/-- A whole state out of its variable and into it, as names of their own: the walk's simp leaves them whole. -/
def loadS (p : Value) : Sem Value := Instr.loadAt 95 p
def storeS (p v : Value) : Sem Unit := Instr.storeAt 95 p v
theorem loadS_fold (p : Value) : Instr.loadAt 95 p = loadS p := rfl
theorem storeS_fold (p v : Value) : Instr.storeAt 95 p v = storeS p v := rfl
theorem info22 : (Try.prog.info? 95).map (·.size) = some 22 := by
  have h := Try.sizeOf95 { heap := #[], tape := default, drawn := default, os := default, output := default }
  generalize Try.prog = P at *
  cases hq : P.info? 95 with
  | none => simp [sizeOf, typeInfo, hq] at h
  | some i => simp [sizeOf, typeInfo, hq] at h; simp [h]
theorem loadVar22 {w : World} {g : Nat} {c : Array Value} {ty : TypeId} {fr : Nat × Nat} (h : w.heap[g]? = some (.cells c ty fr)) (hs : c.size = 22) : (loadVar 95 ⟨g, 0, none⟩).run Try.prog w = .ok (.agg c) w :=
  run_loadVar_row w g ty _ c fr _ h Try.underlying95 rfl (by rw [hs]; exact info22)
theorem StIn.loadS {w : World} {g : Nat} {s : MS} (h : StIn w g s) : (loadS (.pointer (some ⟨g, 0, none⟩))).run Try.prog w = .ok (.agg s.cells) w := by
  simp only [Go.Proofs.Ytfdbnilopfnifaa.loadS, Instr.loadAt, Instr.sureAddr, Sem.run_bind, Sem.run_pure, Result.andThen]
  exact loadVar22 h.blk (MS.cells_size h.ok)
theorem storeS_run {w : World} {g : Nat} {old : Array Value} {ty : TypeId} {s : MS} (h : w.heap[g]? = some (.cells old ty (0, 0))) (ho : old.size = 22) (ok : s.Ok) :
    (storeS (.pointer (some ⟨g, 0, none⟩)) (.agg s.cells)).run Try.prog w = .ok () (w.setRow g s.cells) := by
  simp only [Go.Proofs.Ytfdbnilopfnifaa.storeS, Instr.storeAt, Instr.sureAddr, Sem.run_bind, Sem.run_pure, Result.andThen]
  exact run_storeVar_row w g ty _ old s.cells h (by rw [MS.cells_size ok]; exact info22) (by rw [MS.cells_size ok]; exact ho) (Array.all_eq_true_iff_forall_mem.2 fun v hv => MS.cells_one (s := s) v (by simpa using hv))
theorem StIn.st {w : World} {g : Nat} {s : MS} (h : StIn w g s) {t : Nat} {b : Bool} (hb : s.st[t]? = some b) : w.cell? ⟨g, t, none⟩ = some (.bool b) := cellB h.blk (MS.get_st hb)
theorem StIn.pl {w : World} {g : Nat} {s : MS} (h : StIn w g s) {t n : Nat} (hb : s.pl[t]? = some n) : w.cell? ⟨g, 5 + t, none⟩ = some (.int .i64 n) := cellB h.blk (MS.get_pl h.ok hb)
theorem StIn.ow {w : World} {g : Nat} {s : MS} (h : StIn w g s) {t : Nat} {o : Option Nat} (hb : s.ow[t]? = some o) : w.cell? ⟨g, 10 + t, none⟩ = some (.int .i64 (ownI o)) := cellB h.blk (MS.get_ow h.ok hb)
theorem StIn.fl {w : World} {g : Nat} {s : MS} (h : StIn w g s) {t : Nat} {b : Bool} (hb : s.fl[t]? = some b) : w.cell? ⟨g, 16 + t, none⟩ = some (.bool b) := cellB h.blk (MS.get_fl h.ok hb)
theorem StIn.z {w : World} {g : Nat} {s : MS} (h : StIn w g s) : ∀ j, w.frozen? ⟨g, j, none⟩ = false := fun j => frozen_of_row _ _ j _ _ h.blk
theorem StIn.below {w w' : World} {g : Nat} {s : MS} (h : StIn w g s) (hb : Below w.heap.size w w') : StIn w' g s :=
  ⟨by rw [hb.block g (Array.getElem?_eq_some_iff.1 h.blk).1]; exact h.blk, h.ok⟩
theorem StIn.lt {w : World} {g : Nat} {s : MS} (h : StIn w g s) : g < w.heap.size := (Array.getElem?_eq_some_iff.1 h.blk).1

/-! What a thread is at. -/
def lookTake (o : Option Nat) (t : Nat) : Int × Int :=
  match o with
  | none => (1, -1)
  | some u => if u = t then (5, -1) else (2, u)
def fltIf (b : Bool) : Int × Int := if b = true then (5, -1) else (1, -1)
def pairV (p : Int × Int) : Value := .tuple #[.int .i64 p.1, .int .i64 p.2]

theorem lookAtTake_any (o : Option Nat) (t : Nat) (w : World) : Calls Try.prog 122 #[.int .i64 (ownI o), .int .i64 t] w fun e w' => e = .returned (pairV (lookTake o t)) ∧ w' = w := by
  cases o with
  | none =>
    show Calls Try.prog 122 #[.int .i64 (-1), .int .i64 t] w _
    have hn : ((-1 : Int) == (t : Int)) = false := beq_false_of_ne (by omega)
    go_enter Try.func122, Try.ntmps122
    go_wp2_with (go_at_call 123; refine (faultIf_any _ _).mono ?_; rintro e w1 ⟨rfl, rfl⟩)
    go_ret2
    exact ⟨rfl, rfl⟩
  | some u =>
    show Calls Try.prog 122 #[.int .i64 (u : Int), .int .i64 t] w _
    have h1 : ((u : Int) == (-1 : Int)) = false := beq_false_of_ne (by omega)
    by_cases h : u = t
    · subst h
      have hl : lookTake (some u) u = (5, -1) := by simp [lookTake]
      rw [hl]; clear hl
      go_enter Try.func122, Try.ntmps122
      go_wp2_with (go_at_call 123; refine (faultIf_any _ _).mono ?_; rintro e w1 ⟨rfl, rfl⟩)
      go_ret2
      exact ⟨rfl, rfl⟩
    · have hl : lookTake (some u) t = (2, (u : Int)) := by simp [lookTake, h]
      rw [hl]; clear hl
      have h2 : ((u : Int) == (t : Int)) = false := by simp; omega
      go_enter Try.func122, Try.ntmps122
      go_wp2_with (go_at_call 123; refine (faultIf_any _ _).mono ?_; rintro e w1 ⟨rfl, rfl⟩)
      go_ret2
      exact ⟨rfl, rfl⟩
end Go.Proofs.Ytfdbnilopfnifaa
namespace Go.Proofs.Ytfdbnilopfnifaa
open Go.RowKit

/-! The program's moves. -/
structure Mv where
  th : Nat
  pl : Nat
  x : Stp
  h : ByteArray
def Mv.cells (m : Mv) : Array Value := #[.int .i64 m.th, .int .i64 m.pl, .int .i64 m.x.kind, .int .i64 m.x.which, .int .i64 m.x.count, .string m.h]
def stB (a : Mv) (u : Int) : Bool := decide (a.x.kind = 6 ∧ a.x.which = u)
/-- Does a move lead to a later one? -/
def ldB (a b : Mv) : Bool := decide (a.th = b.th) || stB a b.th || (decide (b.x.kind = 7) && (decide (b.x.which = a.th) || stB a b.x.which))

theorem starts_any (a : Mv) (u : Int) (w : World) :
    Calls Try.prog 135 #[.agg a.cells, .int .i64 u] w fun e w' => e = .returned (.bool (stB a u)) ∧ Below w.heap.size w w' := by
  obtain ⟨th, pl, ⟨k, i, c⟩, h⟩ := a
  show Calls Try.prog 135 #[.agg #[.int .i64 th, .int .i64 pl, .int .i64 k, .int .i64 i, .int .i64 c, .string h], .int .i64 u] w _
  by_cases hk : k = 6
  · by_cases hi : i = u
    · have hr : stB ⟨th, pl, ⟨k, i, c⟩, h⟩ u = true := by simp [stB, hk, hi]
      rw [hr]; clear hr
      subst hk hi
      go_enter Try.func135, Try.ntmps135
      go_wp2
      go_ret
      exact ⟨rfl, (Below.refl _ _).alloc (Nat.le_refl _) _⟩
    · have hr : stB ⟨th, pl, ⟨k, i, c⟩, h⟩ u = false := by simp [stB, hk, hi]
      rw [hr]; clear hr
      subst hk
      have hb : (i == u) = false := beq_false_of_ne hi
      go_enter Try.func135, Try.ntmps135
      go_wp2
      go_ret
      exact ⟨rfl, (Below.refl _ _).alloc (Nat.le_refl _) _⟩
  · have hr : stB ⟨th, pl, ⟨k, i, c⟩, h⟩ u = false := by simp [stB, hk]
    rw [hr]; clear hr
    have hb : (k == 6) = false := beq_false_of_ne hk
    go_enter Try.func135, Try.ntmps135
    go_wp2
    go_ret
    exact ⟨rfl, (Below.refl _ _).alloc (Nat.le_refl _) _⟩

set_option maxRecDepth 100000 in
set_option maxHeartbeats 1000000 in
theorem leads_any (a b : Mv) (w : World) :
    Calls Try.prog 125 #[.agg a.cells, .agg b.cells] w fun e w' => e = .returned (.bool (ldB a b)) ∧ Below w.heap.size w w' := by
  have hS := fun (u : Int) w => starts_any a u w
  have hr : ldB a b = (decide (a.th = b.th) || stB a b.th || (decide (b.x.kind = 7) && (decide (b.x.which = a.th) || stB a b.x.which))) := rfl
  rw [hr]; clear hr
  have e1 : ((a.th : Int) == (b.th : Int)) = decide (a.th = b.th) := by
    by_cases h : a.th = b.th
    · simp [h]
    · have : (a.th : Int) ≠ b.th := by omega
      simp [h, this]
  have e2 : ((a.th : Int) == b.x.which) = decide (b.x.which = (a.th : Int)) := by
    by_cases h : b.x.which = (a.th : Int)
    · simp [h]
    · have : (a.th : Int) ≠ b.x.which := fun hh => h hh.symm
      simp [h, this]
  generalize hs1 : stB a b.th = s1 at *
  generalize hs2 : stB a b.x.which = s2 at *
  obtain ⟨th, pl, ⟨k, i, c⟩, h⟩ := a
  obtain ⟨th', pl', ⟨k', i', c'⟩, h'⟩ := b
  simp only at e1 e2 hs1 hs2 ⊢
  have hS1 := hS th'
  have hS2 := hS i'
  rw [hs1] at hS1
  rw [hs2] at hS2
  simp only [Mv.cells] at hS1 hS2 ⊢
  clear hs1 hs2 hS
  generalize decide (th = th') = d1 at *
  generalize decide (i' = (th : Int)) = d2 at *
  have hBX := (two_new (w := w) (o1 := .cells #[.int .i64 th, .int .i64 pl, .int .i64 k, .int .i64 i, .int .i64 c, .string h] 142) (o2 := .cells #[.int .i64 th', .int .i64 pl', .int .i64 k', .int .i64 i', .int .i64 c', .string h'] 142) (Below.refl _ _)).2.2.1
  cases d1 with
  | true =>
    go_enter Try.func125, Try.ntmps125
    go_wp2
    go_ret
    exact ⟨rfl, hBX⟩
  | false =>
    cases s1 with
    | true =>
      go_enter Try.func125, Try.ntmps125
      go_wp2_with (first | (go_at_call 135; refine (hS1 _).mono ?_; rintro e w1 ⟨rfl, hb⟩))
      go_ret
      exact ⟨rfl, hBX.trans (hb.mono hBX.size)⟩
    | false =>
      by_cases hk : k' = 7
      · subst hk
        cases d2 with
        | true =>
          go_enter Try.func125, Try.ntmps125
          go_wp2_with (first | (go_at_call 135; refine (hS1 _).mono ?_; rintro e w1 ⟨rfl, hb⟩; obtain ⟨b0, b1, hB, _⟩ := two_new hb; have q0 : w1.cell? ⟨w.heap.size, 0, none⟩ = some (.int .i64 th) := cellB b0 rfl; have q2 : w1.cell? ⟨w.heap.size + 1, 2, none⟩ = some (.int .i64 7) := cellB b1 rfl; have q3 : w1.cell? ⟨w.heap.size + 1, 3, none⟩ = some (.int .i64 i') := cellB b1 rfl))
          go_ret
          exact ⟨rfl, hB⟩
        | false =>
          go_enter Try.func125, Try.ntmps125
          go_upto_region 5 with (first | (go_at_call 135; refine (hS1 _).mono ?_; rintro e w1 ⟨rfl, hb⟩; obtain ⟨b0, b1, hB, _⟩ := two_new hb; have q0 : w1.cell? ⟨w.heap.size, 0, none⟩ = some (.int .i64 th) := cellB b0 rfl; have p1 : w1.cell? ⟨w.heap.size, 1, none⟩ = some (.int .i64 pl) := cellB b0 rfl; have p2 : w1.cell? ⟨w.heap.size, 2, none⟩ = some (.int .i64 k) := cellB b0 rfl; have p3 : w1.cell? ⟨w.heap.size, 3, none⟩ = some (.int .i64 i) := cellB b0 rfl; have p4 : w1.cell? ⟨w.heap.size, 4, none⟩ = some (.int .i64 c) := cellB b0 rfl; have p5 : w1.cell? ⟨w.heap.size, 5, none⟩ = some (.string h) := cellB b0 rfl; have q2 : w1.cell? ⟨w.heap.size + 1, 2, none⟩ = some (.int .i64 7) := cellB b1 rfl; have q3 : w1.cell? ⟨w.heap.size + 1, 3, none⟩ = some (.int .i64 i') := cellB b1 rfl))
          go_wp2_with (first | (go_at_call 135; refine (hS2 _).mono ?_; rintro e w2 ⟨rfl, hb2⟩))
          go_ret
          exact ⟨by simp, hB.trans (hb2.mono hB.size)⟩
      · have hk2 : (k' != 7) = true := by simpa using hk
        go_enter Try.func125, Try.ntmps125
        go_wp2_with (first | (go_at_call 135; refine (hS1 _).mono ?_; rintro e w1 ⟨rfl, hb⟩; obtain ⟨b0, b1, hB, _⟩ := two_new hb; have q2 : w1.cell? ⟨w.heap.size + 1, 2, none⟩ = some (.int .i64 k') := cellB b1 rfl))
        go_ret
        exact ⟨by simp [hk], hB⟩

theorem cell_put_other (w : World) {p a : Addr} (h : a.block ≠ p.block) (u : Value) : (w.setCell p u).cell? a = w.cell? a := World.cell?_of_block (heap_setCell_other _ _ _ _ h)
theorem below_setRow {n : Nat} {w w' : World} {g : Nat} (h : Below n w w') (hg : n ≤ g) (c : Array Value) : Below n w (w'.setRow g c) :=
  ⟨by simpa using h.os, by simpa using h.tape, by simpa using h.output, by simpa using h.size, fun k hk => (setRow_other w' g k c (by omega)).trans (h.block k hk)⟩

/-! The program's sets: sixty marks, as a value. -/
def setC (m : List Bool) : Array Value := (m.map Value.bool).toArray
theorem setC_size (m : List Bool) : (setC m).size = m.length := by simp [setC]
theorem setC_one {m : List Bool} : ∀ v ∈ setC m, v.oneCell' = true := by
  intro v hv
  simp only [setC, List.mem_toArray, List.mem_map] at hv
  obtain ⟨b, _, rfl⟩ := hv
  rfl
theorem setC_get {m : List Bool} {j : Nat} {b : Bool} (h : m[j]? = some b) : (setC m)[j]? = some (.bool b) := by simp [setC, h]
theorem setC_set (m : List Bool) (j : Nat) (b : Bool) : (setC m).setIfInBounds j (.bool b) = setC (m.set j b) := by simp [setC, List.map_set]
theorem setC_inj {a b : List Bool} (h : setC a = setC b) : a = b := by
  have h1 : a.map Value.bool = b.map Value.bool := by
    have := congrArg Array.toList h
    simpa [setC] using this
  exact List.map_inj_right (fun _ _ e => by injection e) |>.1 h1
structure SetIn (w : World) (g : Nat) (m : List Bool) : Prop where
  blk : w.heap[g]? = some (.cells (setC m) 145 (0, 0))
  n : m.length = 60
def zeroM60 : List Bool := List.replicate 60 false
def loadQ (p : Value) : Sem Value := Instr.loadAt 145 p
def storeQ (p v : Value) : Sem Unit := Instr.storeAt 145 p v
theorem loadQ_fold (p : Value) : Instr.loadAt 145 p = loadQ p := rfl
theorem storeQ_fold (p v : Value) : Instr.storeAt 145 p v = storeQ p v := rfl
theorem zeroQ_fold (w : World) : (zeroValue 145).run Try.prog w = .ok (.agg (setC zeroM60)) w := Try.zeroValue145 w
theorem info60 : (Try.prog.info? 145).map (·.size) = some 60 := by
  have h := Try.sizeOf145 { heap := #[], tape := default, drawn := default, os := default, output := default }
  generalize Try.prog = P at *
  cases hq : P.info? 145 with
  | none => simp [sizeOf, typeInfo, hq] at h
  | some i => simp [sizeOf, typeInfo, hq] at h; simp [h]
theorem loadVar60 {w : World} {g : Nat} {m : List Bool} (h : SetIn w g m) : (loadVar 145 ⟨g, 0, none⟩).run Try.prog w = .ok (.agg (setC m)) w :=
  run_loadVar_row w g _ _ (setC m) _ _ h.blk Try.underlying145 rfl (by rw [setC_size, h.n]; exact info60)
theorem SetIn.loadQ {w : World} {g : Nat} {m : List Bool} (h : SetIn w g m) : (loadQ (.pointer (some ⟨g, 0, none⟩))).run Try.prog w = .ok (.agg (setC m)) w := by
  simp only [Go.Proofs.Ytfdbnilopfnifaa.loadQ, Instr.loadAt, Instr.sureAddr, Sem.run_bind, Sem.run_pure, Result.andThen]
  exact loadVar60 h
theorem storeQ_run {w : World} {g : Nat} {old m : List Bool} (h : SetIn w g old) (hm : m.length = 60) :
    (storeQ (.pointer (some ⟨g, 0, none⟩)) (.agg (setC m))).run Try.prog w = .ok () (w.setRow g (setC m)) := by
  simp only [Go.Proofs.Ytfdbnilopfnifaa.storeQ, Instr.storeAt, Instr.sureAddr, Sem.run_bind, Sem.run_pure, Result.andThen]
  exact run_storeVar_row w g _ _ (setC old) (setC m) h.blk (by rw [setC_size, hm]; exact info60) (by rw [setC_size, setC_size, h.n, hm]) (Array.all_eq_true_iff_forall_mem.2 fun v hv => setC_one v hv)
theorem SetIn.cell {w : World} {g : Nat} {m : List Bool} (h : SetIn w g m) {j : Nat} {b : Bool} (hb : m[j]? = some b) : w.cell? ⟨g, j, none⟩ = some (.bool b) := cellB h.blk (setC_get hb)
theorem SetIn.z {w : World} {g : Nat} {m : List Bool} (h : SetIn w g m) : ∀ j, w.frozen? ⟨g, j, none⟩ = false := fun j => frozen_of_row _ _ j _ _ h.blk
theorem SetIn.lt {w : World} {g : Nat} {m : List Bool} (h : SetIn w g m) : g < w.heap.size := (Array.getElem?_eq_some_iff.1 h.blk).1
theorem SetIn.below {w w' : World} {g : Nat} {m : List Bool} (h : SetIn w g m) (hb : Below w.heap.size w w') : SetIn w' g m :=
  ⟨by rw [hb.block g h.lt]; exact h.blk, h.n⟩
theorem SetIn.put {w : World} {g : Nat} {m : List Bool} (h : SetIn w g m) (j : Nat) (b : Bool) : SetIn (w.setCell ⟨g, j, none⟩ (.bool b)) g (m.set j b) :=
  ⟨by rw [← setC_set]; exact heap_setCell_same _ _ _ _ _ _ h.blk, by simpa using h.n⟩
theorem SetIn.setRow {w : World} {g : Nat} {old m : List Bool} (h : SetIn w g old) (hm : m.length = 60) : SetIn (w.setRow g (setC m)) g m := ⟨setRow_heap w g _ _ _ _ h.blk, hm⟩
theorem SetIn.new (w : World) {m : List Bool} (hm : m.length = 60) : SetIn (w.alloc (.cells (setC m) 145)) w.heap.size m := ⟨heap_alloc_new _ _, hm⟩
theorem SetIn.old {w : World} {g : Nat} {m : List Bool} (h : SetIn w g m) (o : Obj) : SetIn (w.alloc o) g m := h.below ((Below.refl _ _).alloc (Nat.le_refl _) o)
theorem SetIn.other {w : World} {g : Nat} {m : List Bool} (h : SetIn w g m) {p : Addr} (hp : p.block ≠ g) (u : Value) : SetIn (w.setCell p u) g m := ⟨by rw [heap_setCell_other _ _ _ _ (fun e => hp e.symm)]; exact h.blk, h.n⟩
theorem SetIn.rowOther {w : World} {g g' : Nat} {m : List Bool} (h : SetIn w g m) (hne : g ≠ g') (c : Array Value) : SetIn (w.setRow g' c) g m := ⟨by rw [setRow_other _ _ _ _ hne]; exact h.blk, h.n⟩
end Go.Proofs.Ytfdbnilopfnifaa
