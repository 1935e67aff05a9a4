import Derived.Test.YtdfndcbakcmgiabDoorE5
namespace Go.Proofs.YtdfndcbakcmgiabDoor
open Go.RowKit
attribute [local go_sem ↓] loadS_fold storeS_fold

/-- The first cells of a variable of State's type. -/
def zeroS : Array Value := #[.bool false, .bool false, .bool false, .bool false, .bool false, .int .i64 0, .int .i64 0, .int .i64 0, .int .i64 0, .int .i64 0, .int .i64 0, .int .i64 0, .int .i64 0, .int .i64 0, .int .i64 0, .int .i64 0, .bool false, .bool false, .bool false, .bool false, .bool false, .bool false]
theorem zeroS_size : zeroS.size = 22 := rfl
theorem zeroS_fold (w : World) : (zeroValue 79).run Tryd.prog w = .ok (.agg zeroS) w := Tryd.zeroValue79 w
attribute [local go_sem ↓] zeroS_fold

theorem StIn.setRow {w : World} {g : Nat} {old : Array Value} {s : MS} (h : w.heap[g]? = some (.cells old 79 (0, 0))) (ok : s.Ok) : StIn (w.setRow g s.cells) g s := ⟨setRow_heap w g old _ _ _ h, ok⟩
theorem Below.setRow {n : Nat} {w w' : World} {g : Nat} (h : Below n w w') (hg : n ≤ g) (c : Array Value) : Below n w (w'.setRow g c) :=
  ⟨by simpa using h.os, by simpa using h.tape, by simpa using h.output, by simpa using h.size, fun k hk => (setRow_other w' g k c (by omega)).trans (h.block k hk)⟩
theorem results_S2 {fn : Func} (h : fn.results = #[.cell 6 79, .tmp 7]) (tmps : Array Value) (w : World) (g : Nat) (s : MS) (v : Value) (hp : tmps.getD 6 undef = .pointer (some ⟨g, 0, none⟩)) (hv : tmps.getD 7 undef = v) (hs : StIn w g s) :
    (results fn tmps).run Tryd.prog w = .ok (.tuple #[.agg s.cells, v]) w := by
  have hl := loadVar22 hs.blk (MS.cells_size hs.ok)
  have hp' : tmps[6]?.getD undef = .pointer (some ⟨g, 0, none⟩) := by simpa using hp
  have hv' : tmps[7]?.getD undef = v := by simpa using hv
  simp [results, h, hp', hv', asAddr, hl]

def moveV (s : MS) (b : Bool) : Value := .tuple #[.agg s.cells, .bool b]

set_option maxRecDepth 100000 in
set_option maxHeartbeats 2000000 in
theorem Move_no (V : Value) (s : MS) (ok : s.Ok) (w : World) (i a b : Int) (ha : a ≠ 1)
    (hK : ∀ w', Below ((boxes w V s).alloc (.cells zeroS 79)).heap.size ((boxes w V s).alloc (.cells zeroS 79)) w' → Calls Tryd.prog 57 #[.agg #[V], .agg s.cells, .int .i64 i] w' fun e w'' => e = .returned (pairV (a, b)) ∧ Below w'.heap.size w' w'') :
    Calls Tryd.prog 44 #[.agg #[V], .agg s.cells, .int .i64 i] w fun e w' => e = .returned (moveV s false) ∧ Below w.heap.size w w' := by
  have hst0 : StIn (boxes w V s) (w.heap.size + 1) s := ⟨heap_alloc2_new _ _ _, ok⟩
  have hst := hst0.below ((Below.refl _ _).alloc (Nat.le_refl _) (.cells zeroS 79))
  have h6 : ((boxes w V s).alloc (.cells zeroS 79)).heap[w.heap.size + 2]? = some (.cells zeroS 79) := by
    have := heap_alloc_new (boxes w V s) (.cells zeroS 79)
    simpa using this
  have hc0 : (boxes w V s).cell? ⟨w.heap.size, 0, none⟩ = some V := cellB (heap_alloc2_old _ _ _) rfl
  have hB0 : Below w.heap.size w ((boxes w V s).alloc (.cells zeroS 79)) := (two_new ((Below.refl _ _).alloc (Nat.le_refl _) _)).2.2.1
  have hld := hst.loadS
  have hc := hK _ (Below.refl _ _)
  have ha' : (a == 1) = false := beq_false_of_ne ha
  clear hK hst0 hc0
  go_enter Tryd.func44, Tryd.ntmps44
  go_wp2_with (first
    | (go_at_call 57; refine hc.mono ?_; rintro e w1 ⟨he, hb⟩; rw [pairV] at he; subst he; have hsc := hst.below hb; have hld1 := hsc.loadS; have h61 := (hb.block (w.heap.size + 2) (Array.getElem?_eq_some_iff.1 h6).1).trans h6; have hs6 := storeS_run h61 (s := s) rfl ok))
  have hBw := hB0.trans (hb.mono hB0.size)
  exact bodyPost_ret (v := moveV s false) (results_S2 Tryd.results44 _ _ (w.heap.size + 2) s _ rfl rfl (StIn.setRow h61 ok)) rfl ⟨rfl, Below.setRow hBw (by omega) _⟩

def moveStp (L : List (List Stp)) (s : MS) (t n : Nat) (x : Stp) : MS :=
  if x.kind = 1 then { s with pl := s.pl.set t (n + 1), ow := s.ow.set x.which.toNat (some t) }
  else if x.kind = 2 then { s with pl := s.pl.set t (n + 1), ow := s.ow.set x.which.toNat none }
  else if x.kind = 3 then { s with pl := s.pl.set t (n + 1), fl := s.fl.set x.which.toNat true }
  else if x.kind = 4 then { s with pl := s.pl.set t (n + 1), fl := s.fl.set x.which.toNat false }
  else if x.kind = 5 then { s with pl := s.pl.set t (if s.fl[x.which.toNat]? = some true then min (n + 1 + x.count.toNat) (L[t]?.getD []).length else n + 1) }
  else if x.kind = 6 then { s with pl := s.pl.set t (n + 1), st := s.st.set x.which.toNat true }
  else { s with pl := s.pl.set t (n + 1) }

theorem MS.Ok.setPl {s : MS} (ok : s.Ok) (t n : Nat) : MS.Ok { s with pl := s.pl.set t n } := ⟨ok.n1, by simpa using ok.n2, ok.n3, ok.n4⟩
theorem MS.Ok.setSt {s : MS} (ok : s.Ok) (t : Nat) (b : Bool) : MS.Ok { s with st := s.st.set t b } := ⟨by simpa using ok.n1, ok.n2, ok.n3, ok.n4⟩
theorem MS.Ok.setOw {s : MS} (ok : s.Ok) (t : Nat) (b : Option Nat) : MS.Ok { s with ow := s.ow.set t b } := ⟨ok.n1, ok.n2, by simpa using ok.n3, ok.n4⟩
theorem MS.Ok.setFl {s : MS} (ok : s.Ok) (t : Nat) (b : Bool) : MS.Ok { s with fl := s.fl.set t b } := ⟨ok.n1, ok.n2, ok.n3, by simpa using ok.n4⟩
theorem moveStp_ok (L : List (List Stp)) (s : MS) (ok : s.Ok) (t n : Nat) (x : Stp) : (moveStp L s t n x).Ok := by
  unfold moveStp
  split
  · exact (ok.setPl _ _).setOw _ _
  split
  · exact (ok.setPl _ _).setOw _ _
  split
  · exact (ok.setPl _ _).setFl _ _
  split
  · exact (ok.setPl _ _).setFl _ _
  split
  · exact ok.setPl _ _
  split
  · exact (ok.setPl _ _).setSt _ _
  · exact ok.setPl _ _
theorem StIn.putPl {w : World} {g : Nat} {s : MS} (h : StIn w g s) {t : Nat} (ht : t < 5) (n : Nat) (i : Int) (hi : i = n) : StIn (w.setCell ⟨g, 5 + t, none⟩ (.int .i64 i)) g { s with pl := s.pl.set t n } := by
  subst hi
  exact ⟨by rw [← MS.set_pl h.ok ht]; exact heap_setCell_same _ _ _ _ _ _ h.blk, h.ok.setPl _ _⟩
theorem StIn.putSt {w : World} {g : Nat} {s : MS} (h : StIn w g s) {t : Nat} (ht : t < 5) (b : Bool) : StIn (w.setCell ⟨g, t, none⟩ (.bool b)) g { s with st := s.st.set t b } :=
  ⟨by rw [← MS.set_st h.ok ht]; exact heap_setCell_same _ _ _ _ _ _ h.blk, h.ok.setSt _ _⟩
theorem StIn.putOw {w : World} {g : Nat} {s : MS} (h : StIn w g s) {t : Nat} (ht : t < 6) (o : Option Nat) (i : Int) (hi : i = ownI o) : StIn (w.setCell ⟨g, 10 + t, none⟩ (.int .i64 i)) g { s with ow := s.ow.set t o } := by
  subst hi
  exact ⟨by rw [← MS.set_ow h.ok ht]; exact heap_setCell_same _ _ _ _ _ _ h.blk, h.ok.setOw _ _⟩
theorem StIn.putFl {w : World} {g : Nat} {s : MS} (h : StIn w g s) {t : Nat} (b : Bool) : StIn (w.setCell ⟨g, 16 + t, none⟩ (.bool b)) g { s with fl := s.fl.set t b } :=
  ⟨by rw [← MS.set_fl h.ok]; exact heap_setCell_same _ _ _ _ _ _ h.blk, h.ok.setFl _ _⟩
end Go.Proofs.YtdfndcbakcmgiabDoor
namespace Go.Proofs.YtdfndcbakcmgiabDoor
open Go.RowKit
attribute [local go_sem ↓] loadS_fold storeS_fold zeroS_fold

/-- What stands ahead of the switch: the state with its place raised, the step, the result's room. -/
structure MvIn (w wc : World) (V : Value) (s : MS) (q : Nat) (x : Stp) : Prop where
  st : StIn wc (w.heap.size + 1) s
  p0 : wc.cell? ⟨w.heap.size, 0, none⟩ = some V
  res : wc.heap[w.heap.size + 2]? = some (.cells zeroS 79 (0, 0))
  k0 : wc.cell? ⟨q, 0, none⟩ = some (.int .i64 x.kind)
  k1 : wc.cell? ⟨q, 1, none⟩ = some (.int .i64 x.which)
  k2 : wc.cell? ⟨q, 2, none⟩ = some (.int .i64 x.count)
  hq : w.heap.size + 2 < q
  hB : Below w.heap.size w wc

theorem mv_done {w W' : World} {s' : MS} (hs : StIn W' (w.heap.size + 1) s') (hr : W'.heap[w.heap.size + 2]? = some (.cells zeroS 79 (0, 0))) :
    (loadS (.pointer (some ⟨w.heap.size + 1, 0, none⟩))).run Tryd.prog W' = .ok (.agg s'.cells) W' ∧ (storeS (.pointer (some ⟨w.heap.size + 2, 0, none⟩)) (.agg s'.cells)).run Tryd.prog W' = .ok () (W'.setRow (w.heap.size + 2) s'.cells) ∧ StIn (W'.setRow (w.heap.size + 2) s'.cells) (w.heap.size + 2) s' :=
  ⟨hs.loadS, storeS_run hr rfl hs.ok, StIn.setRow hr hs.ok⟩
theorem set_res {w wc : World} {j : Nat} {u : Value} {o : Obj} (h : wc.heap[w.heap.size + 2]? = some o) : (wc.setCell ⟨w.heap.size + 1, j, none⟩ u).heap[w.heap.size + 2]? = some o := by
  rw [heap_setCell_other _ _ _ _ (by simp)]; exact h

set_option maxRecDepth 100000 in
set_option maxHeartbeats 4000000 in
theorem Move_at (V : Value) (L : List (List Stp)) (s : MS) (ok : s.Ok) (w : World) (B : Nat) (hp : ProgIn w B V L) (hL : L.length ≤ 5) (hok : ∀ l ∈ L, ∀ x ∈ l, SOk L.length x) (t n : Nat) (ht : t < L.length) (i : Int) (hi : i = t) (hn : s.pl[t]? = some n) (x : Stp) (hx : L[t][n]? = some x) (hlook : (lookM L s t).1 = 1) (hn12 : n ≤ 12) :
    Calls Tryd.prog 44 #[.agg #[V], .agg s.cells, .int .i64 i] w fun e w' => e = .returned (moveV (moveStp L s t n x) true) ∧ Below w.heap.size w w' := by
  subst hi
  have hp2 : ProgIn (boxes w V s) B V L := (hp.alloc (.cells #[V] 60)).alloc (.cells s.cells 79)
  have hp3 := hp2.alloc (.cells zeroS 79)
  have hst0 : StIn (boxes w V s) (w.heap.size + 1) s := ⟨heap_alloc2_new _ _ _, ok⟩
  have hst := hst0.below ((Below.refl _ _).alloc (Nat.le_refl _) (.cells zeroS 79))
  have h6 : ((boxes w V s).alloc (.cells zeroS 79)).heap[w.heap.size + 2]? = some (.cells zeroS 79) := by
    have := heap_alloc_new (boxes w V s) (.cells zeroS 79)
    simpa using this
  have hc0 : (boxes w V s).cell? ⟨w.heap.size, 0, none⟩ = some V := cellB (heap_alloc2_old _ _ _) rfl
  have hc1 := cell_later ((Below.refl _ _).alloc (Nat.le_refl _) (.cells zeroS 79)) hc0
  have hB0 : Below w.heap.size w ((boxes w V s).alloc (.cells zeroS 79)) := (two_new ((Below.refl _ _).alloc (Nat.le_refl _) _)).2.2.1
  have hld := hst.loadS
  have hK := Look_in V L s ok _ B hp3 hL hok t ht _ rfl
  have hN := fun w' hw => Next_in V L s ok w' B (ProgIn.below hp3 (w' := w') hw) hL t n ht _ rfl hn x hx
  have t0 : (0 : Int) ≤ (t : Int) := by omega
  have t5 : (t : Int) < 5 := by omega
  have t5' : t < 5 := by omega
  obtain ⟨b, hlk⟩ : ∃ b, lookM L s t = (1, b) := ⟨(lookM L s t).2, by rw [← hlook]⟩
  rw [hlk] at hK
  have HX : Hid (SOk L.length x) := hok _ (List.getElem_mem ht) _ (List.mem_of_getElem? hx)
  have HP : Hid (ProgIn w B V L) := hp
  have HN : Hid (s.pl[t]? = some n) := hn
  have HTL : Hid (t < L.length ∧ L.length ≤ 5) := ⟨ht, hL⟩
  have hz : (boxes w V s).heap.size + 1 = w.heap.size + 3 := by simp
  have hwr : IntKind.i64.wrap ((n : Int) + 1) = (n : Int) + 1 := by simp [IntKind.wrap, IntKind.signed, IntKind.bits]; omega
  generalize hr : moveStp L s t n x = r
  have HR : Hid (moveStp L s t n x = r) := hr
  clear hr
  clear hp2 hp3 hp hst0 hc0 hlook hlk hok hx hn ht hL
  go_enter Tryd.func44, Tryd.ntmps44
  go_upto_region 7 with (first
    | (go_at_call 57; refine hK.mono ?_; rintro e w1 ⟨he, hb⟩; rw [pairV] at he; subst he; have hsc := hst.below hb; have hld1 := hsc.loadS; have h61 := (hb.block (w.heap.size + 2) (Array.getElem?_eq_some_iff.1 h6).1).trans h6; have d0 := cell_later hb hc1)
    | (go_at_call 58; refine (hN _ hb).mono ?_; rintro e w2 ⟨he, hb1⟩; rw [nextV, stpV] at he; subst he; have hsc2 := hsc.below hb1; have h62 := (hb1.block (w.heap.size + 2) (Array.getElem?_eq_some_iff.1 h61).1).trans h61; have d1 := cell_later hb1 d0; have hl2 : w.heap.size + 2 < w2.heap.size := (Array.getElem?_eq_some_iff.1 h62).1; have d5 := hsc2.pl HN.out; have z5 := hsc2.z (5 + t)))
  go_cut [] (fun wc => MvIn w wc V { s with pl := s.pl.set t (n + 1) } w2.heap.size x)
  case first =>
    have ha := (Below.refl w2.heap.size w2).alloc (Nat.le_refl _) (.cells #[.int .i64 x.kind, .int .i64 x.which, .int .i64 x.count] 86)
    have hs3 := hsc2.below ha
    have d6 := hs3.pl HN.out
    have z6 := hs3.z (5 + t)
    go_wp2
    go_meet
    case rel =>
      have hBw : Below w.heap.size w w2 := hB0.trans ((hb.trans (hb1.mono hb.size)).mono hB0.size)
      have hnew := new3_get w2 (.int .i64 x.kind) (.int .i64 x.which) (.int .i64 x.count) 86
      exact {
        st := hs3.putPl t5' (n + 1) _ (by omega)
        p0 := cell_set_other (show w.heap.size + 1 ≠ w.heap.size by omega) (cell_later ha d1)
        res := by rw [heap_setCell_other _ _ _ _ (by simp), heap_alloc_old _ _ hl2]; exact h62
        k0 := cell_set_other (show w.heap.size + 1 ≠ w2.heap.size by omega) hnew.1
        k1 := cell_set_other (show w.heap.size + 1 ≠ w2.heap.size by omega) hnew.2.1
        k2 := cell_set_other (show w.heap.size + 1 ≠ w2.heap.size by omega) hnew.2.2
        hq := hl2
        hB := (hBw.alloc hBw.size _).setCell (by simp) _ }
  case rest =>
    have hM := hcut
    generalize w2.heap.size = q at *
    clear hcut hb1 hsc2 h62 d1 hl2 d5 z5 w2
    have k0 := hM.k0
    have k1 := hM.k1
    have hX := HX.out
    obtain ⟨j, hj⟩ : ∃ j : Nat, x.which = j := ⟨x.which.toNat, by have := hX.w0; omega⟩
    have hj6 : j < 6 := by have := hX.wl; omega
    have j0 : (0 : Int) ≤ (j : Int) := by omega
    have j6 : (j : Int) < 6 := by omega
    have hjt : x.which.toNat = j := by omega
    rw [hj] at k1
    have hst1 := hM.st
    have ok1 := hst1.ok
    have hsz := hM.hq
    by_cases h1 : x.kind = 1
    · have hm : moveStp L s t n x = { s with pl := s.pl.set t (n + 1), ow := s.ow.set j (some t) } := by simp [moveStp, h1, hjt]
      rw [h1] at k0
      obtain ⟨o, ho⟩ : ∃ o, s.ow[j]? = some o := ⟨s.ow[j]'(by rw [ok.n3]; omega), by simp⟩
      have c10 := hst1.ow ho
      have z10 := hst1.z (10 + j)
      clear ho
      have hs' := hst1.putOw hj6 (some t) (t : Int) rfl
      obtain ⟨h1', h2', h3⟩ := mv_done hs' (set_res hM.res)
      have HM : Hid (r = _) := HR.out.symm.trans hm
      clear hm HP HX hj hjt hX
      go_wp2
      exact bodyPost_ret (v := moveV _ true) (results_S2 Tryd.results44 _ _ (w.heap.size + 2) _ _ rfl rfl h3) rfl ⟨by rw [HM.out], Below.setRow (hM.hB.setCell (p := ⟨w.heap.size + 1, 10 + j, none⟩) (by simp) _) (by omega) _⟩
    by_cases h2 : x.kind = 2
    · have hm : moveStp L s t n x = { s with pl := s.pl.set t (n + 1), ow := s.ow.set j none } := by simp [moveStp, h2, hjt]
      rw [h2] at k0
      obtain ⟨o, ho⟩ : ∃ o, s.ow[j]? = some o := ⟨s.ow[j]'(by rw [ok.n3]; omega), by simp⟩
      have c10 := hst1.ow ho
      have z10 := hst1.z (10 + j)
      clear ho
      have hs' := hst1.putOw hj6 none (-1) rfl
      obtain ⟨h1', h2', h3⟩ := mv_done hs' (set_res hM.res)
      have HM : Hid (r = _) := HR.out.symm.trans hm
      clear hm HP HX hj hjt hX
      go_wp2
      exact bodyPost_ret (v := moveV _ true) (results_S2 Tryd.results44 _ _ (w.heap.size + 2) _ _ rfl rfl h3) rfl ⟨by rw [HM.out], Below.setRow (hM.hB.setCell (p := ⟨w.heap.size + 1, 10 + j, none⟩) (by simp) _) (by omega) _⟩
    by_cases h3 : x.kind = 3
    · have hm : moveStp L s t n x = { s with pl := s.pl.set t (n + 1), fl := s.fl.set j true } := by simp [moveStp, h3, hjt]
      rw [h3] at k0
      obtain ⟨o, ho⟩ : ∃ o, s.fl[j]? = some o := ⟨s.fl[j]'(by rw [ok.n4]; omega), by simp⟩
      have c10 := hst1.fl ho
      have z10 := hst1.z (16 + j)
      clear ho
      have hs' := hst1.putFl (t := j) true
      obtain ⟨h1', h2', h3⟩ := mv_done hs' (set_res hM.res)
      have HM : Hid (r = _) := HR.out.symm.trans hm
      clear hm HP HX hj hjt hX
      go_wp2
      exact bodyPost_ret (v := moveV _ true) (results_S2 Tryd.results44 _ _ (w.heap.size + 2) _ _ rfl rfl h3) rfl ⟨by rw [HM.out], Below.setRow (hM.hB.setCell (p := ⟨w.heap.size + 1, 16 + j, none⟩) (by simp) _) (by omega) _⟩
    by_cases h4 : x.kind = 4
    · have hm : moveStp L s t n x = { s with pl := s.pl.set t (n + 1), fl := s.fl.set j false } := by simp [moveStp, h4, hjt]
      rw [h4] at k0
      obtain ⟨o, ho⟩ : ∃ o, s.fl[j]? = some o := ⟨s.fl[j]'(by rw [ok.n4]; omega), by simp⟩
      have c10 := hst1.fl ho
      have z10 := hst1.z (16 + j)
      clear ho
      have hs' := hst1.putFl (t := j) false
      obtain ⟨h1', h2', h3⟩ := mv_done hs' (set_res hM.res)
      have HM : Hid (r = _) := HR.out.symm.trans hm
      clear hm HP HX hj hjt hX
      go_wp2
      exact bodyPost_ret (v := moveV _ true) (results_S2 Tryd.results44 _ _ (w.heap.size + 2) _ _ rfl rfl h3) rfl ⟨by rw [HM.out], Below.setRow (hM.hB.setCell (p := ⟨w.heap.size + 1, 16 + j, none⟩) (by simp) _) (by omega) _⟩
    by_cases h5 : x.kind = 5
    · rw [h5] at k0
      have k2 := hM.k2
      obtain ⟨c, hc⟩ : ∃ c : Nat, x.count = c := ⟨x.count.toNat, by have := hX.c0; omega⟩
      have hc9 : c ≤ 9 := by have := hX.c9; omega
      have hct : x.count.toNat = c := by omega
      rw [hc] at k2
      obtain ⟨o, ho⟩ : ∃ o, s.fl[j]? = some o := ⟨s.fl[j]'(by rw [ok.n4]; omega), by simp⟩
      have c10 := hst1.fl ho
      obtain ⟨htl, hl5⟩ := HTL.out
      have hlt : L[t]? = some L[t] := by simp [htl]
      cases o with
      | false =>
        have hm : moveStp L s t n x = { s with pl := s.pl.set t (n + 1) } := by simp [moveStp, h5, hjt, ho]
        obtain ⟨h1', h2', h3'⟩ := mv_done hst1 hM.res
        have HM : Hid (r = _) := HR.out.symm.trans hm
        clear hm HP HX hj hjt hX ho hlt htl
        go_wp2
        exact bodyPost_ret (v := moveV _ true) (results_S2 Tryd.results44 _ _ (w.heap.size + 2) _ _ rfl rfl h3') rfl ⟨by rw [HM.out], Below.setRow hM.hB (by omega) _⟩
      | true =>
        have hm : moveStp L s t n x = { s with pl := s.pl.set t (min (n + 1 + c) L[t].length) } := by simp [moveStp, h5, hjt, hct, ho, hlt]
        have HM : Hid (r = _) := HR.out.symm.trans hm
        have hSt := fun w' hw => Steps_in V L w' B ((HP.out.below hM.hB).below (w' := w') hw) t htl _ rfl
        generalize L[t].length = len at *
        have p5 := hst1.pl (t := t) (n := n + 1) (by show (s.pl.set t (n + 1))[t]? = _; rw [List.getElem?_set_self (by rw [ok.n2]; omega)])
        have z5 := hst1.z (5 + t)
        have p0 := hM.p0
        have hwr2 : IntKind.i64.wrap ((n : Int) + 1 + c) = (n : Int) + 1 + c := by simp [IntKind.wrap, IntKind.signed, IntKind.bits]; omega
        clear hm HP HX hj hjt hX ho hlt htl
        go_wp2
        go_region_law
            (first
              | (refine step_call (by rfl) 60 #[.agg #[V], .int .i64 t] ?_ (hSt _ ?_) ?_; (· go_simp); (· exact (Below.refl _ _).drew); rintro e w3 ⟨rfl, hb3⟩; refine ⟨_, rfl, ?_⟩; have hx1 : Below wc.heap.size wc w3 := below_of_drew hb3; have p5' := cell_later hx1 p5; have z5' := frozen_later hx1 p5 z5; have k2' := cell_later hx1 k2)
              | (refine step_call (by rfl) 59 #[.int .i64 ((n : Int) + 1 + c), .int .i64 len] ?_ (skipTo_any _ _ _) ?_; (· go_simp); rintro e w4 ⟨rfl, hw⟩; refine ⟨_, rfl, ?_⟩; have hw2 := hw.symm; clear hw; subst hw2))
        all_goals
          have hmin : min ((n : Int) + 1 + c) len = (min (n + 1 + c) len : Nat) := by omega
          rw [hmin]
          have hs3 := (hst1.below hx1).putPl t5' (min (n + 1 + c) len) _ rfl
          have hs4 : StIn (w3.setCell ⟨w.heap.size + 1, 5 + t, none⟩ (.int .i64 (min (n + 1 + c) len : Nat))) (w.heap.size + 1) { s with pl := s.pl.set t (min (n + 1 + c) len) } := by simpa using hs3
          have hr3 := (hx1.block (w.heap.size + 2) (Array.getElem?_eq_some_iff.1 hM.res).1).trans hM.res
          obtain ⟨h1', h2', h3'⟩ := mv_done hs4 (set_res hr3)
          have hB3 := hM.hB.trans (hx1.mono hM.hB.size)
          clear hs3 hmin
          go_wp2
          exact bodyPost_ret (v := moveV _ true) (results_S2 Tryd.results44 _ _ (w.heap.size + 2) _ _ rfl rfl h3') rfl ⟨by rw [HM.out], Below.setRow (hB3.setCell (p := ⟨w.heap.size + 1, 5 + t, none⟩) (by simp) _) (by omega) _⟩
    by_cases h6 : x.kind = 6
    · have hm : moveStp L s t n x = { s with pl := s.pl.set t (n + 1), st := s.st.set j true } := by simp [moveStp, h6, hjt]
      rw [h6] at k0
      have h6' := h6
      have hj5 : j < 5 := by have := hX.wt (.inl h6'); have := HTL.out; omega
      have j5 : (j : Int) < 5 := by omega
      obtain ⟨o, ho⟩ : ∃ o, s.st[j]? = some o := ⟨s.st[j]'(by rw [ok.n1]; omega), by simp⟩
      have c10 := hst1.st ho
      have z10 := hst1.z j
      clear ho
      clear h6'
      have hs' := hst1.putSt hj5 true
      obtain ⟨h1', h2', h3⟩ := mv_done hs' (set_res hM.res)
      have HM : Hid (r = _) := HR.out.symm.trans hm
      clear hm HP HX hj hjt hX
      go_wp2
      exact bodyPost_ret (v := moveV _ true) (results_S2 Tryd.results44 _ _ (w.heap.size + 2) _ _ rfl rfl h3) rfl ⟨by rw [HM.out], Below.setRow (hM.hB.setCell (p := ⟨w.heap.size + 1, j, none⟩) (by simp) _) (by omega) _⟩
    · have hm : moveStp L s t n x = { s with pl := s.pl.set t (n + 1) } := by simp [moveStp, h1, h2, h3, h4, h5, h6]
      obtain ⟨h1', h2', h3'⟩ := mv_done hst1 hM.res
      have HM : Hid (r = _) := HR.out.symm.trans hm
      have b1 : (x.kind == 1) = false := beq_false_of_ne h1
      have b2 : (x.kind == 2) = false := beq_false_of_ne h2
      have b3 : (x.kind == 3) = false := beq_false_of_ne h3
      have b4 : (x.kind == 4) = false := beq_false_of_ne h4
      have b5 : (x.kind == 5) = false := beq_false_of_ne h5
      have b6 : (x.kind == 6) = false := beq_false_of_ne h6
      clear hm HP HX hj hjt hX
      go_wp2
      exact bodyPost_ret (v := moveV _ true) (results_S2 Tryd.results44 _ _ (w.heap.size + 2) _ _ rfl rfl h3') rfl ⟨by rw [HM.out], Below.setRow hM.hB (by omega) _⟩
end Go.Proofs.YtdfndcbakcmgiabDoor
