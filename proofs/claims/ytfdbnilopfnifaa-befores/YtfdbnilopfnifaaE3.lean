import Derived.Test.YtfdbnilopfnifaaD7
namespace Go.Proofs.Ytfdbnilopfnifaa
open Go.RowKit

/-! The program's state, a value of 22 cells. -/
structure MS where
  st : List Bool
  pl : List Nat
  ow : List (Option Nat)
  fl : List Bool
structure MS.Ok (s : MS) : Prop where
  n1 : s.st.length = 5
  n2 : s.pl.length = 5
  n3 : s.ow.length = 6
  n4 : s.fl.length = 6
def ownI : Option Nat → Int
  | none => -1
  | some t => t
def MS.list (s : MS) : List Value := s.st.map Value.bool ++ (placeV s.pl ++ (s.ow.map (fun o => Value.int .i64 (ownI o)) ++ s.fl.map Value.bool))
where placeV (l : List Nat) : List Value := l.map fun (n : Nat) => Value.int .i64 (n : Int)
def MS.cells (s : MS) : Array Value := s.list.toArray

theorem MS.cells_size {s : MS} (ok : s.Ok) : s.cells.size = 22 := by simp [MS.cells, MS.list, MS.list.placeV, ok.n1, ok.n2, ok.n3, ok.n4]
theorem MS.cells_one {s : MS} : ∀ v ∈ s.cells.toList, v.oneCell' = true := by
  intro v hv
  simp only [MS.cells, MS.list, MS.list.placeV, List.mem_append, List.mem_map] at hv
  rcases hv with ⟨_, _, rfl⟩ | ⟨_, _, rfl⟩ | ⟨_, _, rfl⟩ | ⟨_, _, rfl⟩ <;> rfl
theorem MS.get_st {s : MS} {t : Nat} {b : Bool} (h : s.st[t]? = some b) : s.cells[t]? = some (.bool b) := by
  have hl : t < s.st.length := (List.getElem?_eq_some_iff.1 h).1
  simp only [MS.cells, MS.list, List.getElem?_toArray]
  rw [List.getElem?_append_left (by simpa using hl)]
  simp [h]
theorem MS.get_pl {s : MS} (ok : s.Ok) {t n : Nat} (h : s.pl[t]? = some n) : s.cells[5 + t]? = some (.int .i64 n) := by
  have hl : t < s.pl.length := (List.getElem?_eq_some_iff.1 h).1
  have h1 := ok.n1
  simp only [MS.cells, MS.list, List.getElem?_toArray]
  rw [List.getElem?_append_right (by simp; omega), List.getElem?_append_left (by simp [MS.list.placeV]; omega)]
  have : 5 + t - (s.st.map Value.bool).length = t := by simp; omega
  rw [this]
  simp [MS.list.placeV, h]
theorem MS.get_ow {s : MS} (ok : s.Ok) {t : Nat} {o : Option Nat} (h : s.ow[t]? = some o) : s.cells[10 + t]? = some (.int .i64 (ownI o)) := by
  have hl : t < s.ow.length := (List.getElem?_eq_some_iff.1 h).1
  have h1 := ok.n1
  have h2 := ok.n2
  simp only [MS.cells, MS.list, List.getElem?_toArray]
  rw [List.getElem?_append_right (by simp; omega), List.getElem?_append_right (by simp [MS.list.placeV]; omega), List.getElem?_append_left (by simp [MS.list.placeV]; omega)]
  have : 10 + t - (s.st.map Value.bool).length - (MS.list.placeV s.pl).length = t := by simp [MS.list.placeV]; omega
  rw [this]
  simp [h]
theorem MS.get_fl {s : MS} (ok : s.Ok) {t : Nat} {b : Bool} (h : s.fl[t]? = some b) : s.cells[16 + t]? = some (.bool b) := by
  have hl : t < s.fl.length := (List.getElem?_eq_some_iff.1 h).1
  have h1 := ok.n1
  have h2 := ok.n2
  have h3 := ok.n3
  simp only [MS.cells, MS.list, List.getElem?_toArray]
  rw [List.getElem?_append_right (by simp; omega), List.getElem?_append_right (by simp [MS.list.placeV]; omega), List.getElem?_append_right (by simp [MS.list.placeV]; omega)]
  have : 16 + t - (s.st.map Value.bool).length - (MS.list.placeV s.pl).length - (s.ow.map (fun o => Value.int .i64 (ownI o))).length = t := by simp [MS.list.placeV]; omega
  rw [this]
  simp [h]
theorem MS.set_st {s : MS} (ok : s.Ok) {t : Nat} (h : t < 5) (b : Bool) : s.cells.setIfInBounds t (.bool b) = { s with st := s.st.set t b : MS }.cells := by
  have h1 := ok.n1
  simp only [MS.cells, MS.list, List.setIfInBounds_toArray]
  rw [List.set_append, if_pos (by simp; omega)]
  simp [List.map_set]
theorem MS.set_pl {s : MS} (ok : s.Ok) {t : Nat} (h : t < 5) (n : Nat) : s.cells.setIfInBounds (5 + t) (.int .i64 n) = { s with pl := s.pl.set t n : MS }.cells := by
  have h1 := ok.n1
  have h2 := ok.n2
  simp only [MS.cells, MS.list, List.setIfInBounds_toArray]
  rw [List.set_append, if_neg (by simp; omega), List.set_append, if_pos (by simp [MS.list.placeV]; omega)]
  have : 5 + t - (s.st.map Value.bool).length = t := by simp; omega
  rw [this]
  simp [List.map_set, MS.list.placeV]
theorem MS.set_ow {s : MS} (ok : s.Ok) {t : Nat} (h : t < 6) (o : Option Nat) : s.cells.setIfInBounds (10 + t) (.int .i64 (ownI o)) = { s with ow := s.ow.set t o : MS }.cells := by
  have h1 := ok.n1
  have h2 := ok.n2
  have h3 := ok.n3
  simp only [MS.cells, MS.list, List.setIfInBounds_toArray]
  rw [List.set_append, if_neg (by simp; omega), List.set_append, if_neg (by simp [MS.list.placeV]; omega), List.set_append, if_pos (by simp [MS.list.placeV]; omega)]
  have : 10 + t - (s.st.map Value.bool).length - (MS.list.placeV s.pl).length = t := by simp [MS.list.placeV]; omega
  rw [this]
  simp [List.map_set]
theorem MS.set_fl {s : MS} (ok : s.Ok) {t : Nat} (b : Bool) : s.cells.setIfInBounds (16 + t) (.bool b) = { s with fl := s.fl.set t b : MS }.cells := by
  have h1 := ok.n1
  have h2 := ok.n2
  have h3 := ok.n3
  simp only [MS.cells, MS.list, List.setIfInBounds_toArray]
  rw [List.set_append, if_neg (by simp; omega), List.set_append, if_neg (by simp [MS.list.placeV]; omega), List.set_append, if_neg (by simp [MS.list.placeV]; omega)]
  have : 16 + t - (s.st.map Value.bool).length - (MS.list.placeV s.pl).length - (s.ow.map (fun o => Value.int .i64 (ownI o))).length = t := by simp [MS.list.placeV]; omega
  rw [this]
  simp [List.map_set]

/-- A state lies in block g. -/
structure StIn (w : World) (g : Nat) (s : MS) : Prop where
  blk : w.heap[g]? = some (.cells s.cells 95 (0, 0))
  ok : s.Ok

theorem ld22 {w : World} {g : Nat} {c : Array Value} {ty : TypeId} {fr : Nat × Nat} (h : w.heap[g]? = some (.cells c ty fr)) (hs : c.size = 22) : (loadCellsFrom ⟨g, 0, none⟩ 0 22 #[]).run Try.prog w = .ok c w := by
  have := run_loadCells_list (P := Try.prog) w ⟨g, 0, none⟩ c.toList (fun j v hv => by
    have hadd : (⟨g, 0, none⟩ : Addr).add j = ⟨g, j, none⟩ := by unfold Addr.add; split <;> simp_all
    rw [hadd, cell_of_row _ _ j c _ _ h]
    simpa using hv)
  simpa [loadCells, hs] using this
theorem st22 {w : World} {g : Nat} {old c : Array Value} {ty : TypeId} (h : w.heap[g]? = some (.cells old ty (0, 0))) (ho : old.size = 22) (hs : c.size = 22) (h1 : ∀ v ∈ c.toList, v.oneCell' = true) :
    (storeCells ⟨g, 0, none⟩ c.toList 0).run Try.prog w = .ok () (w.setRow g c) := by
  have := run_storeCells_from (P := Try.prog) g ty c.toList 0 old w h (by simp [ho, hs]) h1
  simpa using this
theorem StIn.load {w : World} {g : Nat} {s : MS} (h : StIn w g s) : (loadCellsFrom ⟨g, 0, none⟩ 0 22 #[]).run Try.prog w = .ok s.cells w := ld22 h.blk (MS.cells_size h.ok)
/-- A whole state out of its variable and into it, as names of their own: the walk's simp leaves them whole. -/
def loadS (p : Value) : Sem Value := Instr.loadAt 95 p
def storeS (p v : Value) : Sem Unit := Instr.storeAt 95 p v
theorem loadS_fold (p : Value) : Instr.loadAt 95 p = loadS p := rfl
theorem storeS_fold (p v : Value) : Instr.storeAt 95 p v = storeS p v := rfl
theorem info22 : (Try.prog.info? 95).map (·.size) = some 22 := by
  have h := Try.sizeOf95 { heap := #[], tape := default, drawn := default, os := default, output := default }
  generalize Try.prog = P at *
  cases hq : P.info? 95 with
  | none => simp [sizeOf, typeInfo, hq] at h
  | some i => simp [sizeOf, typeInfo, hq] at h; simp [h]
theorem loadVar22 {w : World} {g : Nat} {c : Array Value} {ty : TypeId} {fr : Nat × Nat} (h : w.heap[g]? = some (.cells c ty fr)) (hs : c.size = 22) : (loadVar 95 ⟨g, 0, none⟩).run Try.prog w = .ok (.agg c) w :=
  run_loadVar_row w g ty _ c fr _ h Try.underlying95 rfl (by rw [hs]; exact info22)
theorem StIn.loadS {w : World} {g : Nat} {s : MS} (h : StIn w g s) : (loadS (.pointer (some ⟨g, 0, none⟩))).run Try.prog w = .ok (.agg s.cells) w := by
  simp only [Go.Proofs.Ytfdbnilopfnifaa.loadS, Instr.loadAt, Instr.sureAddr, Sem.run_bind, Sem.run_pure, Result.andThen]
  exact loadVar22 h.blk (MS.cells_size h.ok)
theorem storeS_run {w : World} {g : Nat} {old : Array Value} {ty : TypeId} {s : MS} (h : w.heap[g]? = some (.cells old ty (0, 0))) (ho : old.size = 22) (ok : s.Ok) :
    (storeS (.pointer (some ⟨g, 0, none⟩)) (.agg s.cells)).run Try.prog w = .ok () (w.setRow g s.cells) := by
  simp only [Go.Proofs.Ytfdbnilopfnifaa.storeS, Instr.storeAt, Instr.sureAddr, Sem.run_bind, Sem.run_pure, Result.andThen]
  exact run_storeVar_row w g ty _ old s.cells h (by rw [MS.cells_size ok]; exact info22) (by rw [MS.cells_size ok]; exact ho) (Array.all_eq_true_iff_forall_mem.2 fun v hv => MS.cells_one (s := s) v (by simpa using hv))
theorem StIn.st {w : World} {g : Nat} {s : MS} (h : StIn w g s) {t : Nat} {b : Bool} (hb : s.st[t]? = some b) : w.cell? ⟨g, t, none⟩ = some (.bool b) := cellB h.blk (MS.get_st hb)
theorem StIn.pl {w : World} {g : Nat} {s : MS} (h : StIn w g s) {t n : Nat} (hb : s.pl[t]? = some n) : w.cell? ⟨g, 5 + t, none⟩ = some (.int .i64 n) := cellB h.blk (MS.get_pl h.ok hb)
theorem StIn.ow {w : World} {g : Nat} {s : MS} (h : StIn w g s) {t : Nat} {o : Option Nat} (hb : s.ow[t]? = some o) : w.cell? ⟨g, 10 + t, none⟩ = some (.int .i64 (ownI o)) := cellB h.blk (MS.get_ow h.ok hb)
theorem StIn.fl {w : World} {g : Nat} {s : MS} (h : StIn w g s) {t : Nat} {b : Bool} (hb : s.fl[t]? = some b) : w.cell? ⟨g, 16 + t, none⟩ = some (.bool b) := cellB h.blk (MS.get_fl h.ok hb)
theorem StIn.z {w : World} {g : Nat} {s : MS} (h : StIn w g s) : ∀ j, w.frozen? ⟨g, j, none⟩ = false := fun j => frozen_of_row _ _ j _ _ h.blk
theorem StIn.below {w w' : World} {g : Nat} {s : MS} (h : StIn w g s) (hb : Below w.heap.size w w') : StIn w' g s :=
  ⟨by rw [hb.block g (Array.getElem?_eq_some_iff.1 h.blk).1]; exact h.blk, h.ok⟩
theorem StIn.lt {w : World} {g : Nat} {s : MS} (h : StIn w g s) : g < w.heap.size := (Array.getElem?_eq_some_iff.1 h.blk).1

/-! What a thread is at. -/
def lookTake (o : Option Nat) (t : Nat) : Int × Int :=
  match o with
  | none => (1, -1)
  | some u => if u = t then (5, -1) else (2, u)
def fltIf (b : Bool) : Int × Int := if b = true then (5, -1) else (1, -1)
def pairV (p : Int × Int) : Value := .tuple #[.int .i64 p.1, .int .i64 p.2]

theorem lookAtTake_any (o : Option Nat) (t : Nat) (w : World) : Calls Try.prog 122 #[.int .i64 (ownI o), .int .i64 t] w fun e w' => e = .returned (pairV (lookTake o t)) ∧ w' = w := by
  cases o with
  | none =>
    show Calls Try.prog 122 #[.int .i64 (-1), .int .i64 t] w _
    have hn : ((-1 : Int) == (t : Int)) = false := beq_false_of_ne (by omega)
    go_enter Try.func122, Try.ntmps122
    go_wp2_with (go_at_call 123; refine (faultIf_any _ _).mono ?_; rintro e w1 ⟨rfl, rfl⟩)
    go_ret2
    exact ⟨rfl, rfl⟩
  | some u =>
    show Calls Try.prog 122 #[.int .i64 (u : Int), .int .i64 t] w _
    have h1 : ((u : Int) == (-1 : Int)) = false := beq_false_of_ne (by omega)
    by_cases h : u = t
    · subst h
      have hl : lookTake (some u) u = (5, -1) := by simp [lookTake]
      rw [hl]; clear hl
      go_enter Try.func122, Try.ntmps122
      go_wp2_with (go_at_call 123; refine (faultIf_any _ _).mono ?_; rintro e w1 ⟨rfl, rfl⟩)
      go_ret2
      exact ⟨rfl, rfl⟩
    · have hl : lookTake (some u) t = (2, (u : Int)) := by simp [lookTake, h]
      rw [hl]; clear hl
      have h2 : ((u : Int) == (t : Int)) = false := by simp; omega
      go_enter Try.func122, Try.ntmps122
      go_wp2_with (go_at_call 123; refine (faultIf_any _ _).mono ?_; rintro e w1 ⟨rfl, rfl⟩)
      go_ret2
      exact ⟨rfl, rfl⟩
end Go.Proofs.Ytfdbnilopfnifaa
