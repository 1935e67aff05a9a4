import Derived.Test.YtfdbnilopfnifaaE6
namespace Go.Proofs.Ytfdbnilopfnifaa
open Go.RowKit
attribute [local go_sem ↓] loadS_fold storeS_fold

/-- What Next answers. -/
def nextV (x : Stp) (n : Nat) : Value := .tuple #[stpV x, .int .i64 n, .bool true]

set_option maxHeartbeats 2000000 in
theorem Next_in (V : Value) (L : List (List Stp)) (s : MS) (ok : s.Ok) (w : World) (B : Nat) (hp : ProgIn w B V L) (hL : L.length ≤ 5) (t n : Nat) (ht : t < L.length) (i : Int) (hi : i = t) (hn : s.pl[t]? = some n) (x : Stp) (hx : L[t][n]? = some x) :
    Calls Try.prog 107 #[.agg #[V], .agg s.cells, .int .i64 i] w fun e w' => e = .returned (nextV x n) ∧ Below w.heap.size w w' := by
  subst hi
  have hp2 : ProgIn (boxes w V s) B V L := (hp.alloc (.cells #[V] 72)).alloc (.cells s.cells 95)
  have hp3 := hp2.alloc (.cells #[.int .i64 0, .int .i64 0, .int .i64 0] 140)
  have hT := Threads_any V L _ B hp3
  have hS := fun w' hw => Step_in V L w' B (ProgIn.below hp3 (w' := w') hw) t n ht x hx _ _ rfl rfl
  have hst : StIn (boxes w V s) (w.heap.size + 1) s := ⟨heap_alloc2_new _ _ _, ok⟩
  have c2 := cell_later ((Below.refl _ _).alloc (Nat.le_refl _) (.cells #[.int .i64 0, .int .i64 0, .int .i64 0] 140)) (hst.pl hn)
  have hc0 : (boxes w V s).cell? ⟨w.heap.size, 0, none⟩ = some V := cellB (heap_alloc2_old _ _ _) rfl
  have hc1 := cell_later ((Below.refl _ _).alloc (Nat.le_refl _) (.cells #[.int .i64 0, .int .i64 0, .int .i64 0] 140)) hc0
  have hB0 : Below w.heap.size w ((boxes w V s).alloc (.cells #[.int .i64 0, .int .i64 0, .int .i64 0] 140)) := (two_new ((Below.refl _ _).alloc (Nat.le_refl _) _)).2.2.1
  have t0 : (0 : Int) ≤ (t : Int) := by omega
  have t5 : (t : Int) < 5 := by omega
  have t5' : t < 5 := by omega
  have ht' : ¬ ((L.length : Int) ≤ (t : Int)) := by omega
  have hs3 : (boxes w V s).heap.size = w.heap.size + 2 := by simp
  clear hp2 hp3 hp hL hst hn hx hc0 ht
  go_enter Try.func107, Try.ntmps107
  go_wp2_with (first
    | (go_at_call 85; refine hT.mono ?_; rintro e w1 ⟨rfl, hb⟩; obtain ⟨hc, hz, hlt, _⟩ := below_new hb; rw [hs3] at hc hz hlt; have q0 : w1.cell? ⟨w.heap.size + 2, 0, none⟩ = some (.int .i64 0) := hc 0 _ rfl; have q1 : w1.cell? ⟨w.heap.size + 2, 1, none⟩ = some (.int .i64 0) := hc 1 _ rfl; have q2 : w1.cell? ⟨w.heap.size + 2, 2, none⟩ = some (.int .i64 0) := hc 2 _ rfl; clear hc; have z0 := hz 0; have d2 := cell_later hb c2; have d0 := cell_later hb hc1)
    | (go_at_call 121; refine (hS _ hb).mono ?_; rintro e w2 ⟨he, hb1⟩; rw [stpV] at he; subst he; have q0' := cell_later hb1 q0; have q1' := cell_later hb1 q1; have q2' := cell_later hb1 q2; have z0' := frozen_later hb1 q0 (hz 0); have z1' := frozen_later hb1 q1 (hz 1); have z2' := frozen_later hb1 q2 (hz 2); have hB2 := hb.trans (hb1.mono hb.size); have hl2 := Nat.lt_of_lt_of_le hlt hb1.size))
  have hBw : Below w.heap.size w w2 := hB0.trans (hB2.mono hB0.size)
  exact bodyPost_ret (v := nextV x n) (by simp [results, Try.results107, go_sem, nextV, stpV, q0', q1', q2', hl2]) rfl ⟨rfl, (((hBw.setCell (p := ⟨w.heap.size + 2, 0, none⟩) (by simp) _).setCell (p := ⟨w.heap.size + 2, 1, none⟩) (by simp) _).setCell (p := ⟨w.heap.size + 2, 2, none⟩) (by simp) _).alloc (by simpa using hBw.size) _⟩
end Go.Proofs.Ytfdbnilopfnifaa
namespace Go.Proofs.Ytfdbnilopfnifaa
open Go.RowKit
attribute [local go_sem ↓] loadS_fold storeS_fold

/-- The first cells of a variable of State's type. -/
def zeroS : Array Value := #[.bool false, .bool false, .bool false, .bool false, .bool false, .int .i64 0, .int .i64 0, .int .i64 0, .int .i64 0, .int .i64 0, .int .i64 0, .int .i64 0, .int .i64 0, .int .i64 0, .int .i64 0, .int .i64 0, .bool false, .bool false, .bool false, .bool false, .bool false, .bool false]
theorem zeroS_size : zeroS.size = 22 := rfl
theorem zeroS_fold (w : World) : (zeroValue 95).run Try.prog w = .ok (.agg zeroS) w := Try.zeroValue95 w
attribute [local go_sem ↓] zeroS_fold

theorem StIn.setRow {w : World} {g : Nat} {old : Array Value} {s : MS} (h : w.heap[g]? = some (.cells old 95 (0, 0))) (ok : s.Ok) : StIn (w.setRow g s.cells) g s := ⟨setRow_heap w g old _ _ _ h, ok⟩
theorem Below.setRow {n : Nat} {w w' : World} {g : Nat} (h : Below n w w') (hg : n ≤ g) (c : Array Value) : Below n w (w'.setRow g c) :=
  ⟨by simpa using h.os, by simpa using h.tape, by simpa using h.output, by simpa using h.size, fun k hk => (setRow_other w' g k c (by omega)).trans (h.block k hk)⟩
theorem results_S2 {fn : Func} (h : fn.results = #[.cell 6 95, .tmp 7]) (tmps : Array Value) (w : World) (g : Nat) (s : MS) (v : Value) (hp : tmps.getD 6 undef = .pointer (some ⟨g, 0, none⟩)) (hv : tmps.getD 7 undef = v) (hs : StIn w g s) :
    (results fn tmps).run Try.prog w = .ok (.tuple #[.agg s.cells, v]) w := by
  have hl := loadVar22 hs.blk (MS.cells_size hs.ok)
  have hp' : tmps[6]?.getD undef = .pointer (some ⟨g, 0, none⟩) := by simpa using hp
  have hv' : tmps[7]?.getD undef = v := by simpa using hv
  simp [results, h, hp', hv', asAddr, hl]

def moveV (s : MS) (b : Bool) : Value := .tuple #[.agg s.cells, .bool b]

set_option maxRecDepth 100000 in
set_option maxHeartbeats 2000000 in
theorem Move_no (V : Value) (s : MS) (ok : s.Ok) (w : World) (i a b : Int) (ha : a ≠ 1)
    (hK : ∀ w', Below ((boxes w V s).alloc (.cells zeroS 95)).heap.size ((boxes w V s).alloc (.cells zeroS 95)) w' → Calls Try.prog 106 #[.agg #[V], .agg s.cells, .int .i64 i] w' fun e w'' => e = .returned (pairV (a, b)) ∧ Below w'.heap.size w' w'') :
    Calls Try.prog 84 #[.agg #[V], .agg s.cells, .int .i64 i] w fun e w' => e = .returned (moveV s false) ∧ Below w.heap.size w w' := by
  have hst0 : StIn (boxes w V s) (w.heap.size + 1) s := ⟨heap_alloc2_new _ _ _, ok⟩
  have hst := hst0.below ((Below.refl _ _).alloc (Nat.le_refl _) (.cells zeroS 95))
  have h6 : ((boxes w V s).alloc (.cells zeroS 95)).heap[w.heap.size + 2]? = some (.cells zeroS 95) := by
    have := heap_alloc_new (boxes w V s) (.cells zeroS 95)
    simpa using this
  have hc0 : (boxes w V s).cell? ⟨w.heap.size, 0, none⟩ = some V := cellB (heap_alloc2_old _ _ _) rfl
  have hB0 : Below w.heap.size w ((boxes w V s).alloc (.cells zeroS 95)) := (two_new ((Below.refl _ _).alloc (Nat.le_refl _) _)).2.2.1
  have hld := hst.loadS
  have hc := hK _ (Below.refl _ _)
  have ha' : (a == 1) = false := beq_false_of_ne ha
  clear hK hst0 hc0
  go_enter Try.func84, Try.ntmps84
  go_wp2_with (first
    | (go_at_call 106; refine hc.mono ?_; rintro e w1 ⟨he, hb⟩; rw [pairV] at he; subst he; have hsc := hst.below hb; have hld1 := hsc.loadS; have h61 := (hb.block (w.heap.size + 2) (Array.getElem?_eq_some_iff.1 h6).1).trans h6; have hs6 := storeS_run h61 (s := s) rfl ok))
  have hBw := hB0.trans (hb.mono hB0.size)
  exact bodyPost_ret (v := moveV s false) (results_S2 Try.results84 _ _ (w.heap.size + 2) s _ rfl rfl (StIn.setRow h61 ok)) rfl ⟨rfl, Below.setRow hBw (by omega) _⟩

def moveStp (L : List (List Stp)) (s : MS) (t n : Nat) (x : Stp) : MS :=
  if x.kind = 1 then { s with pl := s.pl.set t (n + 1), ow := s.ow.set x.which.toNat (some t) }
  else if x.kind = 2 then { s with pl := s.pl.set t (n + 1), ow := s.ow.set x.which.toNat none }
  else if x.kind = 3 then { s with pl := s.pl.set t (n + 1), fl := s.fl.set x.which.toNat true }
  else if x.kind = 4 then { s with pl := s.pl.set t (n + 1), fl := s.fl.set x.which.toNat false }
  else if x.kind = 5 then { s with pl := s.pl.set t (if s.fl[x.which.toNat]? = some true then min (n + 1 + x.count.toNat) (L[t]?.getD []).length else n + 1) }
  else if x.kind = 6 then { s with pl := s.pl.set t (n + 1), st := s.st.set x.which.toNat true }
  else { s with pl := s.pl.set t (n + 1) }

theorem MS.Ok.setPl {s : MS} (ok : s.Ok) (t n : Nat) : MS.Ok { s with pl := s.pl.set t n } := ⟨ok.n1, by simpa using ok.n2, ok.n3, ok.n4⟩
theorem MS.Ok.setSt {s : MS} (ok : s.Ok) (t : Nat) (b : Bool) : MS.Ok { s with st := s.st.set t b } := ⟨by simpa using ok.n1, ok.n2, ok.n3, ok.n4⟩
theorem MS.Ok.setOw {s : MS} (ok : s.Ok) (t : Nat) (b : Option Nat) : MS.Ok { s with ow := s.ow.set t b } := ⟨ok.n1, ok.n2, by simpa using ok.n3, ok.n4⟩
theorem MS.Ok.setFl {s : MS} (ok : s.Ok) (t : Nat) (b : Bool) : MS.Ok { s with fl := s.fl.set t b } := ⟨ok.n1, ok.n2, ok.n3, by simpa using ok.n4⟩
theorem moveStp_ok (L : List (List Stp)) (s : MS) (ok : s.Ok) (t n : Nat) (x : Stp) : (moveStp L s t n x).Ok := by
  unfold moveStp
  split
  · exact (ok.setPl _ _).setOw _ _
  split
  · exact (ok.setPl _ _).setOw _ _
  split
  · exact (ok.setPl _ _).setFl _ _
  split
  · exact (ok.setPl _ _).setFl _ _
  split
  · exact ok.setPl _ _
  split
  · exact (ok.setPl _ _).setSt _ _
  · exact ok.setPl _ _
theorem StIn.putPl {w : World} {g : Nat} {s : MS} (h : StIn w g s) {t : Nat} (ht : t < 5) (n : Nat) (i : Int) (hi : i = n) : StIn (w.setCell ⟨g, 5 + t, none⟩ (.int .i64 i)) g { s with pl := s.pl.set t n } := by
  subst hi
  exact ⟨by rw [← MS.set_pl h.ok ht]; exact heap_setCell_same _ _ _ _ _ _ h.blk, h.ok.setPl _ _⟩
theorem StIn.putSt {w : World} {g : Nat} {s : MS} (h : StIn w g s) {t : Nat} (ht : t < 5) (b : Bool) : StIn (w.setCell ⟨g, t, none⟩ (.bool b)) g { s with st := s.st.set t b } :=
  ⟨by rw [← MS.set_st h.ok ht]; exact heap_setCell_same _ _ _ _ _ _ h.blk, h.ok.setSt _ _⟩
theorem StIn.putOw {w : World} {g : Nat} {s : MS} (h : StIn w g s) {t : Nat} (ht : t < 6) (o : Option Nat) (i : Int) (hi : i = ownI o) : StIn (w.setCell ⟨g, 10 + t, none⟩ (.int .i64 i)) g { s with ow := s.ow.set t o } := by
  subst hi
  exact ⟨by rw [← MS.set_ow h.ok ht]; exact heap_setCell_same _ _ _ _ _ _ h.blk, h.ok.setOw _ _⟩
theorem StIn.putFl {w : World} {g : Nat} {s : MS} (h : StIn w g s) {t : Nat} (b : Bool) : StIn (w.setCell ⟨g, 16 + t, none⟩ (.bool b)) g { s with fl := s.fl.set t b } :=
  ⟨by rw [← MS.set_fl h.ok]; exact heap_setCell_same _ _ _ _ _ _ h.blk, h.ok.setFl _ _⟩
end Go.Proofs.Ytfdbnilopfnifaa
