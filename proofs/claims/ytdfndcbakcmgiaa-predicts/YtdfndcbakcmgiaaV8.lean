import Derived.Test.YtdfndcbakcmgiaaV1
import Derived.Test.YtdfndcbakcmgiaaV5
import Derived.Test.YtdfndcbakcmgiaaU14
namespace Go.Proofs.Ytdfndcbakcmgiaa
open Go.RowKit
attribute [local go_sem ↓] mkB_fold

/-! The reference's report. -/
abbrev rpT (b : Option Addr) (n cb : Nat) (vd : Int) (s : ByteArray) : Array Value := #[.slice b n cb, .int .i64 vd, .string s]
structure RpIn (w0 w : World) (b : Option Addr) (n cb : Nat) (vd : Int) (s : ByteArray) : Prop where
  below : Below w0.heap.size w0 w
  top : w0.heap.size + 2 ≤ w.heap.size
  res : w.heap[w0.heap.size]? = some (.cells #[.slice none 0 0, .int .i64 0, .string ⟨#[]⟩] 58)
  blk : w.heap[w0.heap.size + 1]? = some (.cells (rpT b n cb vd s) 58)
theorem RpIn.later {w0 w w' : World} {b : Option Addr} {n cb : Nat} {vd : Int} {s : ByteArray} (h : RpIn w0 w b n cb vd s) (hb : Below w.heap.size w w') : RpIn w0 w' b n cb vd s :=
  ⟨h.below.trans (hb.mono h.below.size), Nat.le_trans h.top hb.size, by rw [hb.block _ (by have := h.top; omega)]; exact h.res, by rw [hb.block _ (by have := h.top; omega)]; exact h.blk⟩
/-- As it lies when a callee may write above block B alone. -/
theorem RpIn.laterB {w0 w w' : World} {b : Option Addr} {n cb : Nat} {vd : Int} {s : ByteArray} (h : RpIn w0 w b n cb vd s) {B : Nat} (hB : w0.heap.size + 2 ≤ B) (hb : Below B w w') : RpIn w0 w' b n cb vd s :=
  ⟨h.below.trans (hb.mono (by omega)), by have := hb.size; have := h.top; omega, by rw [hb.block _ (by omega)]; exact h.res, by rw [hb.block _ (by omega)]; exact h.blk⟩
theorem RpIn.setV {w0 w : World} {b : Option Addr} {n cb : Nat} {vd : Int} {s : ByteArray} (h : RpIn w0 w b n cb vd s) (vd' : Int) : RpIn w0 (w.setCell ⟨w0.heap.size + 1, 1, none⟩ (.int .i64 vd')) b n cb vd' s :=
  ⟨h.below.setCell (by show w0.heap.size ≤ w0.heap.size + 1; omega) _, by simpa using h.top, by rw [Below.heap_setCell _ _ _ _ (by show w0.heap.size ≠ w0.heap.size + 1; omega)]; exact h.res, by rw [heap_setCell_same w _ 1 _ _ _ h.blk]; rfl⟩
theorem RpIn.setS {w0 w : World} {b : Option Addr} {n cb : Nat} {vd : Int} {s : ByteArray} (h : RpIn w0 w b n cb vd s) (s' : ByteArray) : RpIn w0 (w.setCell ⟨w0.heap.size + 1, 2, none⟩ (.string s')) b n cb vd s' :=
  ⟨h.below.setCell (by show w0.heap.size ≤ w0.heap.size + 1; omega) _, by simpa using h.top, by rw [Below.heap_setCell _ _ _ _ (by show w0.heap.size ≠ w0.heap.size + 1; omega)]; exact h.res, by rw [heap_setCell_same w _ 2 _ _ _ h.blk]; rfl⟩
/-- What is read where the report is copied into the result. -/
theorem RpIn.facts {w0 w : World} {b : Option Addr} {n cb : Nat} {vd : Int} {s : ByteArray} (h : RpIn w0 w b n cb vd s) :
    w.cell? ⟨w0.heap.size + 1, 0, none⟩ = some (.slice b n cb) ∧ w.cell? ⟨w0.heap.size + 1, 1, none⟩ = some (.int .i64 vd) ∧ w.cell? ⟨w0.heap.size + 1, 2, none⟩ = some (.string s) ∧
    w.cell? ⟨w0.heap.size, 0, none⟩ = some (.slice none 0 0) ∧ w.cell? ⟨w0.heap.size, 1, none⟩ = some (.int .i64 0) ∧ w.cell? ⟨w0.heap.size, 2, none⟩ = some (.string ⟨#[]⟩) ∧
    (∀ j, w.frozen? ⟨w0.heap.size, j, none⟩ = false) ∧ (∀ j, w.frozen? ⟨w0.heap.size + 1, j, none⟩ = false) :=
  ⟨cellB h.blk rfl, cellB h.blk rfl, cellB h.blk rfl, cellB h.res rfl, cellB h.res rfl, cellB h.res rfl, fun j => frozen_of_row _ _ j _ _ h.res, fun j => frozen_of_row _ _ j _ _ h.blk⟩
theorem RpIn.out {w0 w : World} {b : Option Addr} {n cb : Nat} {vd : Int} {s : ByteArray} (h : RpIn w0 w b n cb vd s) (u0 u1 u2 : Value) :
    Below w0.heap.size w0 (((w.setCell ⟨w0.heap.size, 0, none⟩ u0).setCell ⟨w0.heap.size, 1, none⟩ u1).setCell ⟨w0.heap.size, 2, none⟩ u2) :=
  ((h.below.setCell (Nat.le_refl _) _).setCell (Nat.le_refl _) _).setCell (Nat.le_refl _) _
theorem RpIn.new (w : World) (b : Option Addr) (n cb : Nat) (vd : Int) (s : ByteArray) : RpIn w ((w.alloc (.cells #[.slice none 0 0, .int .i64 0, .string ⟨#[]⟩] 58)).alloc (.cells (rpT b n cb vd s) 58)) b n cb vd s :=
  ⟨(two_new (Below.refl _ _)).2.2.1, by simp, heap_alloc2_old _ _ _, heap_alloc2_new _ _ _⟩

set_option maxRecDepth 100000 in
set_option maxHeartbeats 2000000 in
theorem report_gated (pw : Nat) (w : World) (a b : Option Addr) (ca cb : Nat) (la : List Aq) (hok : ∀ x ∈ la, x.Ok) (p : List Nat) (hp : p.length ≤ 5) (hin : ∀ i ∈ p, i < la.length) (ha : AqsAt w a la) (hb : IntsAt w b (intN p)) (hg : gateB (ringOf la p) = true) :
    Calls Try.prog 68 #[.pointer (some ⟨pw, 0, none⟩), .slice a la.length ca, .slice b p.length cb] w fun e w' => e = .returned (.agg #[.slice b p.length cb, .int .i64 1, .string ⟨#[]⟩]) ∧ Below w.heap.size w w' := by
  have R0 := RpIn.new w b p.length cb 1 ⟨#[]⟩
  have hG := gate_any a b ca cb la hok p (by omega) hin p.length rfl ((w.alloc (.cells #[.slice none 0 0, .int .i64 0, .string ⟨#[]⟩] 58)).alloc (.cells (rpT b p.length cb 1 ⟨#[]⟩) 58)) (ha.below R0.below) (hb.below R0.below)
  rw [hg] at hG
  go_enter Try.func68, Try.ntmps68
  go_wp2_with (first | (go_at_call 99; refine hG.mono ?_; rintro e w3 ⟨rfl, m3, hw3⟩; have R3 := R0.later (w' := w3) (by rw [hw3]; exact below_drewN _ _); clear hw3; obtain ⟨c0, c1, c2, d0, d1, d2, z0, z1⟩ := R3.facts))
  exact bodyPost_ret (v := .agg #[.slice b p.length cb, .int .i64 1, .string ⟨#[]⟩]) (by simp [results, Try.results68, go_sem, d0, d1, d2]) rfl ⟨rfl, R3.out _ _ _⟩

set_option maxRecDepth 100000 in
set_option maxHeartbeats 2000000 in
theorem report_ordered (pw : Nat) (W : Wd) (w : World) {gP cP gB cB gL cL gH cH gS cS : Nat} {aG : Option Addr} {cG : Nat} (h : WIn w pw W gP cP gB cB gL cL gH cH gS cS aG cG) (hn5 : W.prog.length ≤ 5) (hL : LogOk W) (hl : W.log.length ≤ 60)
    (a b : Option Addr) (ca cb : Nat) (la : List Aq) (hok : ∀ x ∈ la, x.Ok) (hev : ∀ x ∈ la, ∀ m, x.ev = some m → m < W.log.length) (p : List Nat) (hp : p.length ≤ 5) (hin : ∀ i ∈ p, i < la.length) (ha : AqsAt w a la) (hb : IntsAt w b (intN p)) (hg : gateB (ringOf la p) = false) (ho : ordR W.log (ringOf la p)) :
    Calls Try.prog 68 #[.pointer (some ⟨pw, 0, none⟩), .slice a la.length ca, .slice b p.length cb] w fun e w' => e = .returned (.agg #[.slice b p.length cb, .int .i64 2, .string ⟨#[]⟩]) ∧ Below w.heap.size w w' := by
  have R0 := RpIn.new w b p.length cb 1 ⟨#[]⟩
  have hG := gate_any a b ca cb la hok p (by omega) hin p.length rfl ((w.alloc (.cells #[.slice none 0 0, .int .i64 0, .string ⟨#[]⟩] 58)).alloc (.cells (rpT b p.length cb 1 ⟨#[]⟩) 58)) (ha.below R0.below) (hb.below R0.below)
  rw [hg] at hG
  have HO := fun w' (hw : Below w.heap.size w w') => refOrdered_any pw W w' (h.below hw) hn5 hL hl a b ca cb la hev p (by omega) hin p.length rfl (ha.below hw) (hb.below hw) true (by simp [ho])
  go_enter Try.func68, Try.ntmps68
  go_wp2_with (first
    | (go_at_call 99; refine hG.mono ?_; rintro e w3 ⟨rfl, m3, hw3⟩; have R3 := R0.later (w' := w3) (by rw [hw3]; exact below_drewN _ _); clear hw3; obtain ⟨c0, c1, c2, d0, d1, d2, z0, z1⟩ := R3.facts)
    | (go_at_call 100; refine (HO _ (R3.setV 2).below).mono ?_; rintro e w4 ⟨rfl, hb4⟩; have R4 := (R3.setV 2).later hb4; obtain ⟨e0, e1, e2, f0, f1, f2, y0, y1⟩ := R4.facts))
  exact bodyPost_ret (v := .agg #[.slice b p.length cb, .int .i64 2, .string ⟨#[]⟩]) (by simp [results, Try.results68, go_sem, f0, f1, f2]) rfl ⟨rfl, R4.out _ _ _⟩
end Go.Proofs.Ytdfndcbakcmgiaa
namespace Go.Proofs.Ytdfndcbakcmgiaa
open Go.RowKit
attribute [local go_sem ↓] mkB_fold

theorem aheadL_take {l : List Mv} {la : List Aq} {p : List Nat} {i k : Nat} {x : Aq} (h : p[i]? = some k) (hx : la[k]? = some x) : aheadL l (ringOf la (p.take (i + 1))) = aheadL l (ringOf la (p.take i)) ++ (lastQ l x).toList := by
  rw [aheadL, ringOf_take la p i k h, aqOf_get hx, List.filterMap_append]
  cases hq : lastQ l x <;> simp [hq, aheadL]
theorem lastQ_lt {l : List Mv} {x : Aq} {i : Nat} (h : lastQ l x = some i) : i < l.length := by
  have := (lastN_lt h).1
  have : toN x l.length ≤ l.length := by unfold toN; split <;> omega
  omega
/-- An ask of the ring is among the marked events. -/
theorem boundB_iff {ring : List Aq} {m : List Bool} {n : Nat} : boundB ring (listB m n) = true ↔ ∃ x, x ∈ ring ∧ ∃ e, x.ev = some e ∧ e < n ∧ m[e]?.getD false = true := by
  rw [boundB, decide_eq_true_iff]
  constructor
  · rintro ⟨x, hx, e, he, h⟩
    obtain ⟨h1, h2⟩ := List.mem_filter.1 he
    exact ⟨x, hx, e, h, by simpa using h1, h2⟩
  · rintro ⟨x, hx, e, h, h1, h2⟩
    exact ⟨x, hx, e, List.mem_filter.2 ⟨by simpa using h1, h2⟩, h⟩

set_option maxRecDepth 100000 in
set_option maxHeartbeats 2000000 in
theorem report_rest (pw : Nat) (W : Wd) (w : World) {gP cP gB cB gL cL gH cH gS cS : Nat} {aG : Option Addr} {cG : Nat} (h : WIn w pw W gP cP gB cB gL cL gH cH gS cS aG cG) (hn5 : W.prog.length ≤ 5) (hL : LogOk W) (hl : W.log.length ≤ 60)
    (a b : Option Addr) (ca cb : Nat) (la : List Aq) (hok : ∀ x ∈ la, x.Ok) (hev : ∀ x ∈ la, ∀ m, x.ev = some m → m < W.log.length) (p : List Nat) (hp : p.length ≤ 5) (hin : ∀ i ∈ p, i < la.length) (ha : AqsAt w a la) (hb : IntsAt w b (intN p)) (hg : gateB (ringOf la p) = false) (ho : ¬ ordR W.log (ringOf la p))
    (J : Int × List Nat) (hJ : J = if boundB (ringOf la p) (closeF W.log (aheadL (W.log.map mvE) (ringOf la p))) = true then (3, []) else (4, thsE (W.log.map mvE) (closeF W.log (aheadL (W.log.map mvE) (ringOf la p))))) :
    Calls Try.prog 68 #[.pointer (some ⟨pw, 0, none⟩), .slice a la.length ca, .slice b p.length cb] w fun e w' => e = .returned (.agg #[.slice b p.length cb, .int .i64 J.1, .string (digS J.2)]) ∧ Below w.heap.size w w' := by
  have HJ := show Hid _ from hJ
  clear hJ
  have R0 := RpIn.new w b p.length cb 1 ⟨#[]⟩
  have hG := gate_any a b ca cb la hok p (by omega) hin p.length rfl ((w.alloc (.cells #[.slice none 0 0, .int .i64 0, .string ⟨#[]⟩] 58)).alloc (.cells (rpT b p.length cb 1 ⟨#[]⟩) 58)) (ha.below R0.below) (hb.below R0.below)
  rw [hg] at hG
  have HO := fun w' (hw : Below w.heap.size w w') => refOrdered_any pw W w' (h.below hw) hn5 hL hl a b ca cb la hev p (by omega) hin p.length rfl (ha.below hw) (hb.below hw) false (by simp [ho])
  have HAll : Hid (∀ w', Below w.heap.size w w' → AqsAt w' a la ∧ IntsAt w' b (intN p) ∧ WIn w' pw W gP cP gB cB gL cL gH cH gS cS aG cG) := fun w' hw => ⟨ha.below hw, hb.below hw, h.below hw⟩
  go_enter Try.func68, Try.ntmps68
  go_upto_region 9 with (first
    | (go_at_call 99; refine hG.mono ?_; rintro e w3 ⟨rfl, m3, hw3⟩; have R3 := R0.later (w' := w3) (by rw [hw3]; exact below_drewN _ _); clear hw3; obtain ⟨c0, c1, c2, d0, d1, d2, z0, z1⟩ := R3.facts)
    | (go_at_call 100; refine (HO _ (R3.setV 2).below).mono ?_; rintro e w4 ⟨rfl, hb4⟩; have R4 := (R3.setV 2).later hb4; clear c0 c1 c2 d0 d1 d2 z0 z1))
  have hW4 := h.below R4.below
  have ha4 := ha.below R4.below
  have hb4' := hb.below R4.below
  have fG := hW4.fG
  obtain ⟨i0, hi0, hz0, hz1, hz2⟩ := info_split infoBool
  obtain ⟨wm, hmk, hom, hgm⟩ := run_make_full (P := Try.prog) w4 w4.heap.size 82 4 i0 (.bool false) 1 Try.underlying82 hi0 hz0 hz1 .i64 .i64 W.log.length (by rw [hz2]; omega) (by unfold maxLen; omega) (Nat.le_refl _)
  rw [mkB_fold] at hmk
  rw [madeB] at hom
  have hBm : Below w4.heap.size w4 wm := below_grown (Below.refl _ _) (Nat.le_refl _) hgm (fun k hk => by cases hk)
  clear hi0 hz0 hz1 hz2 hgm hG HO R0 R3 hb4 ha hb
  go_wp2
  go_loopw [11] (fun y wr => ∃ k : Nat, k ≤ p.length ∧ y = .int .i64 (k : Int) ∧ wr.ownsRow w4.heap.size 4 1 (.slice (some ⟨w4.heap.size, 0, none⟩) W.log.length W.log.length) W.log.length ((markE W.log.length (intN (aheadL (W.log.map mvE) (ringOf la (p.take k))))).map Value.bool) ∧ Below w4.heap.size w4 wr) (fun y _ => p.length - (intOf y).toNat)
  case atStart => exact ⟨0, Nat.zero_le _, rfl, by simpa [markE, aheadL, ringOf, intN] using hom, hBm⟩
  case round =>
    obtain ⟨k, hk, rfl, hown, hBr⟩ := hrel
    clear hmk hom hBm
    have hWr := hW4.below hBr
    have fGr := hWr.fG
    by_cases hkl : k < p.length
    · obtain ⟨z, hz⟩ := get_some p k hkl
      obtain ⟨x, hx⟩ := get_some la z (hin z (List.mem_of_getElem? hz))
      have hzl := (List.getElem?_eq_some_iff.1 hx).1
      obtain ⟨g, o, e1, s1⟩ := (hb4'.below hBr) k (z : Int) (by simp [intN, hz])
      subst e1
      obtain ⟨G, e2, c0, c1, c2, c3, c4⟩ := (ha4.below hBr) z x hx
      subst e2
      have k0 : (0 : Int) ≤ (k : Int) := by omega
      have kl : (k : Int) < (p.length : Int) := by omega
      have z0 : (0 : Int) ≤ (z : Int) := by omega
      have zl : (z : Int) < (la.length : Int) := by omega
      have HA : Hid (aheadL (W.log.map mvE) (ringOf la (p.take (k + 1))) = aheadL (W.log.map mvE) (ringOf la (p.take k)) ++ (lastQ (W.log.map mvE) x).toList) := aheadL_take hz hx
      have hLa := fun (n : Nat) (hn : n ≤ W.log.length) w' (hw : Below wr.heap.size wr w') => lastOf_any pw W w' (hWr.below hw) hL hl x.th n hn _ _ rfl rfl
      have hxe := hev x (List.mem_of_getElem? hx)
      clear hx hz
      cases hxev : x.ev with
      | none =>
        rw [hxev] at c4
        simp only [evI] at c4
        have hLn := hLa W.log.length (by omega)
        have hYb : Below wr.heap.size wr (wr.alloc (.cells #[.int .i64 x.th, .int .i64 x.pl, .string (letS 97 [x.k]), .string (letS 97 x.hl), .int .i64 (-1)] 42)) := (Below.refl _ _).alloc (Nat.le_refl _) _
        have fGY := cell_later hYb fGr
        have hYn := heap_alloc_new wr (.cells #[.int .i64 x.th, .int .i64 x.pl, .string (letS 97 [x.k]), .string (letS 97 x.hl), .int .i64 (-1)] 42)
        have y0 : (wr.alloc (.cells #[.int .i64 x.th, .int .i64 x.pl, .string (letS 97 [x.k]), .string (letS 97 x.hl), .int .i64 (-1)] 42)).cell? ⟨wr.heap.size, 0, none⟩ = some (.int .i64 x.th) := cellB hYn rfl
        have y4 : (wr.alloc (.cells #[.int .i64 x.th, .int .i64 x.pl, .string (letS 97 [x.k]), .string (letS 97 x.hl), .int .i64 (-1)] 42)).cell? ⟨wr.heap.size, 4, none⟩ = some (.int .i64 (-1)) := cellB hYn rfl
        have ownY := hown.alloc (.cells #[.int .i64 x.th, .int .i64 x.pl, .string (letS 97 [x.k]), .string (letS 97 x.hl), .int .i64 (-1)] 42)
        have hLY := hLn _ hYb
        have hBY := hBr.trans (hYb.mono hBr.size)
        generalize hYe : wr.alloc (.cells #[.int .i64 x.th, .int .i64 x.pl, .string (letS 97 [x.k]), .string (letS 97 x.hl), .int .i64 (-1)] 42) = Y at *
        have HYe := show Hid _ from hYe
        generalize hlq : lastN (W.log.map mvE) x.th W.log.length = q at *
        have HA2 : Hid (aheadL (W.log.map mvE) (ringOf la (p.take (k + 1))) = aheadL (W.log.map mvE) (ringOf la (p.take k)) ++ q.toList) := by rw [Hid, HA.out, lastQ, toN, hxev, List.length_map]; simp only [hlq]
        have HQl : Hid (∀ v, q = some v → v < W.log.length) := fun v hv => by rw [← hlq] at hv; have := (lastN_lt hv).1; omega
        clear HA hLn hLa hYe hYn hxev hlq
        go_upto_region 14 with fail
        rw [HYe.out]
        cases q with
        | none =>
          have HA3 : Hid (aheadL (W.log.map mvE) (ringOf la (p.take (k + 1))) = aheadL (W.log.map mvE) (ringOf la (p.take k))) := by rw [Hid, HA2.out]; simp
          simp only [lastI] at hLY
          go_wp2_with (first | (go_at_call 101; refine hLY.mono ?_; rintro e w2 ⟨rfl, hw⟩; have hw2 := hw.symm; clear hw; subst hw2))
          go_roundw
          case rel => exact ⟨k + 1, by omega, by go_num, by rw [HA3.out]; exact ownY, hBY⟩
          case measure => (simp [intOf] <;> omega)
        | some v =>
          have hvl := HQl.out v rfl
          have HA3 : Hid (markE W.log.length (intN (aheadL (W.log.map mvE) (ringOf la (p.take (k + 1))))) = (markE W.log.length (intN (aheadL (W.log.map mvE) (ringOf la (p.take k))))).set v true) := by rw [Hid, HA2.out, intN, List.map_append, Option.toList_some, List.map_singleton, markE_snoc]; rfl
          simp only [lastI] at hLY
          obtain ⟨bv, hbv⟩ := get_some (markE W.log.length (intN (aheadL (W.log.map mvE) (ringOf la (p.take k))))) v (by rw [markE_len]; exact hvl)
          have cz : Y.cell? ⟨w4.heap.size, v, none⟩ = some (.bool bv) := by rw [ownY.cellAt v (by omega)]; simp [hbv]
          have zz : Y.frozen? ⟨w4.heap.size, v, none⟩ = false := ownY.frozenAt v
          have hst := (ownY.stored v (.bool true)).1
          rw [← List.map_set] at hst
          have v0 : (0 : Int) ≤ (v : Int) := by omega
          have vl : (v : Int) < (W.log.length : Int) := by omega
          clear hbv HA2
          go_wp2_with (first | (go_at_call 101; refine hLY.mono ?_; rintro e w2 ⟨rfl, hw⟩; have hw2 := hw.symm; clear hw; subst hw2))
          go_roundw
          case rel => exact ⟨k + 1, by omega, by go_num, by rw [HA3.out]; exact hst, hBY.setCell (Nat.le_refl _) _⟩
          case measure => (simp [intOf] <;> omega)
      | some ev =>
        have hevl := hxe ev hxev
        have ev0 : ¬ (ev : Int) < 0 := by omega
        rw [hxev] at c4
        simp only [evI] at c4
        have hLn := hLa ev (by omega)
        have hYb : Below wr.heap.size wr (wr.alloc (.cells #[.int .i64 x.th, .int .i64 x.pl, .string (letS 97 [x.k]), .string (letS 97 x.hl), .int .i64 (ev : Int)] 42)) := (Below.refl _ _).alloc (Nat.le_refl _) _
        have fGY := cell_later hYb fGr
        have hYn := heap_alloc_new wr (.cells #[.int .i64 x.th, .int .i64 x.pl, .string (letS 97 [x.k]), .string (letS 97 x.hl), .int .i64 (ev : Int)] 42)
        have y0 : (wr.alloc (.cells #[.int .i64 x.th, .int .i64 x.pl, .string (letS 97 [x.k]), .string (letS 97 x.hl), .int .i64 (ev : Int)] 42)).cell? ⟨wr.heap.size, 0, none⟩ = some (.int .i64 x.th) := cellB hYn rfl
        have y4 : (wr.alloc (.cells #[.int .i64 x.th, .int .i64 x.pl, .string (letS 97 [x.k]), .string (letS 97 x.hl), .int .i64 (ev : Int)] 42)).cell? ⟨wr.heap.size, 4, none⟩ = some (.int .i64 (ev : Int)) := cellB hYn rfl
        have ownY := hown.alloc (.cells #[.int .i64 x.th, .int .i64 x.pl, .string (letS 97 [x.k]), .string (letS 97 x.hl), .int .i64 (ev : Int)] 42)
        have hLY := hLn _ hYb
        have hBY := hBr.trans (hYb.mono hBr.size)
        generalize hYe : wr.alloc (.cells #[.int .i64 x.th, .int .i64 x.pl, .string (letS 97 [x.k]), .string (letS 97 x.hl), .int .i64 (ev : Int)] 42) = Y at *
        have HYe := show Hid _ from hYe
        generalize hlq : lastN (W.log.map mvE) x.th ev = q at *
        have HA2 : Hid (aheadL (W.log.map mvE) (ringOf la (p.take (k + 1))) = aheadL (W.log.map mvE) (ringOf la (p.take k)) ++ q.toList) := by rw [Hid, HA.out, lastQ, toN, hxev, List.length_map]; simp only [Nat.min_eq_left (Nat.le_of_lt hevl), hlq]
        have HQl : Hid (∀ v, q = some v → v < W.log.length) := fun v hv => by rw [← hlq] at hv; have := (lastN_lt hv).1; omega
        clear HA hLn hLa hYe hYn hxev hlq
        go_upto_region 14 with fail
        rw [HYe.out]
        cases q with
        | none =>
          have HA3 : Hid (aheadL (W.log.map mvE) (ringOf la (p.take (k + 1))) = aheadL (W.log.map mvE) (ringOf la (p.take k))) := by rw [Hid, HA2.out]; simp
          simp only [lastI] at hLY
          go_wp2_with (first | (go_at_call 101; refine hLY.mono ?_; rintro e w2 ⟨rfl, hw⟩; have hw2 := hw.symm; clear hw; subst hw2))
          go_roundw
          case rel => exact ⟨k + 1, by omega, by go_num, by rw [HA3.out]; exact ownY, hBY⟩
          case measure => (simp [intOf] <;> omega)
        | some v =>
          have hvl := HQl.out v rfl
          have HA3 : Hid (markE W.log.length (intN (aheadL (W.log.map mvE) (ringOf la (p.take (k + 1))))) = (markE W.log.length (intN (aheadL (W.log.map mvE) (ringOf la (p.take k))))).set v true) := by rw [Hid, HA2.out, intN, List.map_append, Option.toList_some, List.map_singleton, markE_snoc]; rfl
          simp only [lastI] at hLY
          obtain ⟨bv, hbv⟩ := get_some (markE W.log.length (intN (aheadL (W.log.map mvE) (ringOf la (p.take k))))) v (by rw [markE_len]; exact hvl)
          have cz : Y.cell? ⟨w4.heap.size, v, none⟩ = some (.bool bv) := by rw [ownY.cellAt v (by omega)]; simp [hbv]
          have zz : Y.frozen? ⟨w4.heap.size, v, none⟩ = false := ownY.frozenAt v
          have hst := (ownY.stored v (.bool true)).1
          rw [← List.map_set] at hst
          have v0 : (0 : Int) ≤ (v : Int) := by omega
          have vl : (v : Int) < (W.log.length : Int) := by omega
          clear hbv HA2
          go_wp2_with (first | (go_at_call 101; refine hLY.mono ?_; rintro e w2 ⟨rfl, hw⟩; have hw2 := hw.symm; clear hw; subst hw2))
          go_roundw
          case rel => exact ⟨k + 1, by omega, by go_num, by rw [HA3.out]; exact hst, hBY.setCell (Nat.le_refl _) _⟩
          case measure => (simp [intOf] <;> omega)
    · have kl : ¬ (k : Int) < (p.length : Int) := by omega
      have htk : p.take k = p := by rw [show k = p.length by omega, List.take_length]
      rw [htk] at hown
      have hCl := close_any pw w4.heap.size W.log.length W wr w4.heap.size hn5 hL hl _ (fun w' hw => hW4.below (hBr.trans hw)) hBr.size hown (markE_len _ _)
      have hAin : inR W.log.length (intN (aheadL (W.log.map mvE) (ringOf la p))) := fun y hy => by
        obtain ⟨i, hi, rfl⟩ := List.mem_map.1 hy
        have := aheadL_in _ _ i hi
        rw [List.length_map] at this
        omega
      have HCF : Hid (∀ m, Mid W.log (markE W.log.length (intN (aheadL (W.log.map mvE) (ringOf la p)))) m → ClosedS W.log m → listB m W.log.length = closeF W.log (aheadL (W.log.map mvE) (ringOf la p))) := fun m h1 h2 => closeF_eq (h1.toS hAin hl) h2
      generalize markE W.log.length (intN (aheadL (W.log.map mvE) (ringOf la p))) = mk0 at *
      generalize closeF W.log (aheadL (W.log.map mvE) (ringOf la p)) = F at *
      clear htk hAin ha4 hb4' hW4 hWr fG fGr
      go_upto_region 21 with (first | (go_at_call 64; refine hCl.mono ?_; rintro e w5 ⟨m, rfl, hb5, hMid, hCS, ho5⟩))
      have hF := HCF.out m hMid hCS
      subst hF
      have R5 := R4.later (hBr.trans hb5)
      have R6 := R5.setV 3
      have htop := R4.top
      have ho6 := ownsRow_set ho5 (w.heap.size + 1) 1 (.int .i64 3) (by omega)
      obtain ⟨c0, c1, c2, d0, d1, d2, z0, z1⟩ := R5.facts
      have hml := hMid.len
      go_upto_region 22 with fail
      clear c0 c1 c2 d0 d1 d2 z0 z1 hCl hMid hCS HCF R5 R4 hown hBr hb5 ho5
      generalize w5.setCell ⟨w.heap.size + 1, 1, none⟩ (.int .i64 3) = w6 at *
      obtain ⟨ha6, hb6, hW6⟩ := HAll.out w6 R6.below
      have cellM : ∀ (x : Nat) (y : Bool), m[x]? = some y → w6.cell? ⟨w4.heap.size, x, none⟩ = some (.bool y) := fun x y hx => by
        have hxl : x < W.log.length := by rw [← hml]; exact (List.getElem?_eq_some_iff.1 hx).1
        rw [ho6.cellAt x (by omega)]
        simp [hx]
      have HCM := show Hid _ from cellM
      clear cellM
      go_wp2
      go_loopw [15] (fun y wr => ∃ i : Nat, i ≤ p.length ∧ y = .int .i64 (i : Int) ∧ Hid (∀ x ∈ ringOf la (p.take i), ∀ e, x.ev = some e → m[e]?.getD false = false) ∧ wr = w6) (fun y _ => p.length - (intOf y).toNat)
      case atStart => exact ⟨0, Nat.zero_le _, rfl, (fun x hx => by simp [ringOf] at hx), rfl⟩
      case round =>
        obtain ⟨i, hi, rfl, HN, hwr⟩ := hrel
        subst hwr
        by_cases hil : i < p.length
        · obtain ⟨z, hz⟩ := get_some p i hil
          obtain ⟨x, hx⟩ := get_some la z (hin z (List.mem_of_getElem? hz))
          have hzl := (List.getElem?_eq_some_iff.1 hx).1
          obtain ⟨g, o, e1, s1⟩ := hb6 i (z : Int) (by simp [intN, hz])
          subst e1
          obtain ⟨G, e2, _, _, _, _, c4⟩ := ha6 z x hx
          subst e2
          have i0 : (0 : Int) ≤ (i : Int) := by omega
          have il : (i : Int) < (p.length : Int) := by omega
          have z0 : (0 : Int) ≤ (z : Int) := by omega
          have zl : (z : Int) < (la.length : Int) := by omega
          have HN2 : Hid ((∀ e, x.ev = some e → m[e]?.getD false = false) → ∀ y ∈ ringOf la (p.take (i + 1)), ∀ e, y.ev = some e → m[e]?.getD false = false) := fun hh y hy => by
            rw [ringOf_take la p i z hz, List.mem_append, aqOf_get hx] at hy
            rcases hy with hy | hy
            · exact HN.out y hy
            · rw [List.mem_singleton.1 hy]; exact hh
          have HBo : Hid (∀ e, x.ev = some e → m[e]?.getD false = true → J = (3, [])) := fun e he hm => by
            rw [HJ.out, if_pos]
            refine boundB_iff.2 ⟨x, List.mem_map.2 ⟨z, List.mem_of_getElem? hz, aqOf_get hx⟩, e, he, hev x (List.mem_of_getElem? hx) e he, hm⟩
          have hxe := hev x (List.mem_of_getElem? hx)
          clear hx hz HN
          cases hxev : x.ev with
          | none =>
            rw [hxev] at c4
            simp only [evI] at c4
            have HN3 : Hid _ := HN2.out (fun e he => by rw [hxev] at he; cases he)
            clear HN2 HBo hxev HJ
            go_wp2
            go_roundw
            case rel => exact ⟨i + 1, by omega, by go_num, HN3, by first | rfl | trivial⟩
            case measure => (simp [intOf] <;> omega)
          | some ev =>
            have hevl := hxe ev hxev
            have ev0 : (0 : Int) ≤ (ev : Int) := by omega
            have evl : (ev : Int) < (W.log.length : Int) := by omega
            rw [hxev] at c4
            simp only [evI] at c4
            obtain ⟨y, hy⟩ := get_some m ev (by omega)
            have cy := HCM.out ev y hy
            cases y with
            | true =>
              have hJ3 := HBo.out ev hxev (by rw [hy]; rfl)
              subst hJ3
              obtain ⟨a0, a1, a2, d0, d1, d2, z0, z1⟩ := R6.facts
              clear HN2 HBo hxev HJ hy
              go_wp2
              exact bodyPost_ret (v := .agg #[.slice (some ⟨g, o, none⟩) p.length cb, .int .i64 3, .string ⟨#[]⟩]) (by simp [results, Try.results68, go_sem, d0, d1, d2]) rfl ⟨rfl, R6.out _ _ _⟩
            | false =>
              have HN3 : Hid _ := HN2.out (fun e he => by rw [hxev] at he; cases he; rw [hy]; rfl)
              clear HN2 HBo hxev HJ hy
              go_wp2
              go_roundw
              case rel => exact ⟨i + 1, by omega, by go_num, HN3, by first | rfl | trivial⟩
              case measure => (simp [intOf] <;> omega)
        · have il : ¬ (i : Int) < (p.length : Int) := by omega
          have hti : p.take i = p := by rw [show i = p.length by omega, List.take_length]
          have hJ4 : J = (4, thsE (W.log.map mvE) (listB m W.log.length)) := by
            rw [HJ.out, if_neg]
            intro hb
            obtain ⟨x, hx, e, he, _, hm⟩ := boundB_iff.1 hb
            have := HN.out x (by rw [hti]; exact hx) e he
            rw [hm] at this; cases this
          subst hJ4
          have R7 := R6.setV 4
          have ho7 := ownsRow_set ho6 (w.heap.size + 1) 1 (.int .i64 4) (by omega)
          obtain ⟨a0, a1, a2, d0, d1, d2, z0, z1⟩ := R6.facts
          go_upto_region 28 with fail
          clear a0 a1 a2 d0 d1 d2 z0 z1 HN HJ hti R6 ho6 HCM ha6 hb6 hW6
          generalize wr.setCell ⟨w.heap.size + 1, 1, none⟩ (.int .i64 4) = w7 at *
          go_wp2
          go_loopw [16] (fun y wr => ∃ t : Nat, t ≤ W.log.length ∧ y = .int .i64 (t : Int) ∧ RpIn w wr b p.length cb 4 (digS (thsE (W.log.map mvE) (listB m t))) ∧ wr.ownsRow w4.heap.size 4 1 (.slice (some ⟨w4.heap.size, 0, none⟩) W.log.length W.log.length) W.log.length (m.map Value.bool)) (fun y _ => W.log.length - (intOf y).toNat)
          case atStart => exact ⟨0, Nat.zero_le _, rfl, by rw [show digS (thsE (W.log.map mvE) (listB m 0)) = ⟨#[]⟩ from rfl]; exact R7, ho7⟩
          case round =>
            obtain ⟨t, ht, rfl, R8, ho8⟩ := hrel
            clear R7 ho7
            obtain ⟨a0, a1, a2, d0, d1, d2, z0, z1⟩ := R8.facts
            by_cases htl : t < W.log.length
            · obtain ⟨y, hy⟩ := get_some m t (by omega)
              have cy : wr.cell? ⟨w4.heap.size, t, none⟩ = some (.bool y) := by rw [ho8.cellAt t (by omega)]; simp [hy]
              have t0 : (0 : Int) ≤ (t : Int) := by omega
              have tl : (t : Int) < (W.log.length : Int) := by omega
              cases y with
              | false =>
                have HL1 : Hid (listB m (t + 1) = listB m t) := listB_no (by rw [hy]; rfl)
                clear hy
                go_wp2
                go_roundw
                case rel => exact ⟨t + 1, by omega, by go_num, by rw [HL1.out]; exact R8, ho8⟩
                case measure => (simp [intOf] <;> omega)
              | true =>
                have hl1 : listB m (t + 1) = listB m t ++ [t] := listB_yes (by rw [hy]; rfl)
                obtain ⟨_, _, hW8⟩ := HAll.out wr R8.below
                obtain ⟨ev, hev8⟩ := get_some W.log t htl
                obtain ⟨th, hth, hth5⟩ := (hL ev (List.mem_of_getElem? hev8)).th
                obtain ⟨gl, hgl, hcc⟩ := hW8.cG' (by intro e; rw [e] at hev8; simp at hev8)
                have fG8 := hW8.fG
                subst hgl
                obtain ⟨b0, _, _, _⟩ := hcc t ev hev8
                rw [Nat.mul_comm 4 t, hth] at b0
                have HS : Hid (digS (thsE (W.log.map mvE) (listB m (t + 1))) = digS (thsE (W.log.map mvE) (listB m t)) ++ nameS th) := by
                  rw [Hid, hl1, digS_snoc]
                  congr 1
                  rw [thsE, thsE, List.map_append]
                  simp [hev8, mvE, hth]
                have hNm := fun w => name_any th w (by omega)
                have hcat : ¬ 9223372036854775807 < (digS (thsE (W.log.map mvE) (listB m t))).size + (nameS th).size := by
                  have := listB_len m t
                  rw [digS_size, nameS_size, thsE, List.length_map]; omega
                generalize digS (thsE (W.log.map mvE) (listB m t)) = sd at *
                have HR8 : Hid (RpIn w wr b p.length cb 4 sd) := R8
                have HO8 : Hid (wr.ownsRow w4.heap.size 4 1 (.slice (some ⟨w4.heap.size, 0, none⟩) W.log.length W.log.length) W.log.length (m.map Value.bool)) := ho8
                clear hy hl1 hev8 hcc R8 ho8 d0 d1 d2 a0 a1
                have z2 := z1 2
                clear z0 z1
                go_upto_region 32 with fail
                go_region_law
                  (first
                    | (refine step_call (by rfl) 51 #[.int .i64 (th : Int)] ?_ (hNm _) ?_; (· go_simp); rintro e w8 ⟨rfl, hb8⟩; refine ⟨_, rfl, ?_⟩; have hx8 : Below wr.heap.size wr w8 := below_of_drew hb8; have a2' := cell_later hx8 a2; have z2' := frozen_later hx8 a2 z2; have b0' := cell_later hx8 b0; have fG8' := cell_later hx8 fG8))
                all_goals
                  go_wp2
                  go_roundw
                  case rel => exact ⟨t + 1, by omega, by go_num, by rw [HS.out]; exact (HR8.out.later hx8).setS _, ownsRow_set (ownsRow_below HO8.out hx8) _ _ _ (by omega)⟩
                  case measure => (simp [intOf] <;> omega)
            · have tl : ¬ (t : Int) < (W.log.length : Int) := by omega
              have hte : t = W.log.length := by omega
              subst hte
              generalize hsd : digS (thsE (W.log.map mvE) (listB m W.log.length)) = sd at *
              have HSD := show Hid _ from hsd
              clear hsd
              go_wp2
              exact bodyPost_ret (v := .agg #[.slice b p.length cb, .int .i64 4, .string sd]) (by simp [results, Try.results68, go_sem, d0, d1, d2]) rfl ⟨by rw [HSD.out], R8.out _ _ _⟩
end Go.Proofs.Ytdfndcbakcmgiaa
