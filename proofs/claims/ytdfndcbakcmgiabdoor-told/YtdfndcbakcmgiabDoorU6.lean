import Derived.Test.YtdfndcbakcmgiabDoorU1
import Derived.BigRegion
namespace Go.Proofs.YtdfndcbakcmgiabDoor
open Go.RowKit

/-! The events by which the threads of a ring come to their asks. -/
def aheadL (l : List Mv) (ring : List Aq) : List Nat := ring.filterMap (lastQ l)
theorem aheadL_len (l : List Mv) (ring : List Aq) : (aheadL l ring).length ≤ ring.length := List.length_filterMap_le _ _

set_option maxRecDepth 100000 in
set_option maxHeartbeats 8000000 in
theorem listAhead_any (g c : Nat) (Wn : Value) (l : List Mv) (w : World) (hE : MvsAt w g l) (hl : l.length ≤ 60) (n : Nat) (hn : n = l.length) (a : Option Addr) (ca : Nat) (ring : List Aq) (hr : ring.length ≤ 100) (nr : Nat) (hnr : nr = ring.length) (ha : AqsAt w a ring) :
    Calls Tryd.prog 66 #[.agg #[.slice (some ⟨g, 0, none⟩) n c, Wn], .slice a nr ca] w fun e w' => ∃ g' c', e = .returned (.slice (some ⟨g', 0, none⟩) (aheadL l ring).length c') ∧ Below w.heap.size w w' ∧ w'.ownsRow (w.heap.size + 1) 3 1 (.slice (some ⟨g', 0, none⟩) (aheadL l ring).length c') (aheadL l ring).length (intV (aheadL l ring)) := by
  subst hn hnr
  have hB0 : Below w.heap.size w (trBox w g l.length c Wn) := (Below.refl _ _).alloc (Nat.le_refl _) _
  have T0 := TrIn.new w g l.length c Wn
  have hE0 := hE.below hB0
  have ha0 := ha.below hB0
  have hbs : (trBox w g l.length c Wn).heap.size = w.heap.size + 1 := by simp
  have hr0 : ((trBox w g l.length c Wn).alloc (.cells #[] 3)).ownsRow (w.heap.size + 1) 3 1 (.slice (some ⟨w.heap.size + 1, 0, none⟩) (aheadL l (ring.take 0)).length 0) (aheadL l (ring.take 0)).length (intV (aheadL l (ring.take 0))) := by
    have h := World.ownsRow_lit (trBox w g l.length c Wn) (base := w.heap.size + 1) (e := 3) (size := 1) #[] 0 (by simp) (Nat.zero_le _) rfl
    simpa [aheadL, intV] using h
  have hBr0 : Below (w.heap.size + 1) (trBox w g l.length c Wn) ((trBox w g l.length c Wn).alloc (.cells #[] 3)) := by rw [← hbs]; exact (Below.refl _ _).alloc (Nat.le_refl _) _
  go_enter Tryd.func66, Tryd.ntmps66
  go_wp2
  go_loopw [5, 6] (fun v y wr => ∃ i g' cap : Nat, i ≤ ring.length ∧ y = .int .i64 (i : Int) ∧ v = .slice (some ⟨g', 0, none⟩) (aheadL l (ring.take i)).length cap ∧ wr.ownsRow (w.heap.size + 1) 3 1 (.slice (some ⟨g', 0, none⟩) (aheadL l (ring.take i)).length cap) (aheadL l (ring.take i)).length (intV (aheadL l (ring.take i))) ∧ Below (w.heap.size + 1) (trBox w g l.length c Wn) wr) (fun _ y _ => ring.length - (intOf y).toNat)
  case atStart => exact ⟨0, w.heap.size + 1, 0, Nat.zero_le _, rfl, rfl, hr0, hBr0⟩
  case round =>
    obtain ⟨i, g', cap, hi, rfl, rfl, hown, hB⟩ := hrel
    clear hr0 hBr0
    have hBr : Below (trBox w g l.length c Wn).heap.size (trBox w g l.length c Wn) wr := by rw [hbs]; exact hB
    have hsz : w.heap.size + 1 ≤ wr.heap.size := by rw [← hbs]; exact hBr.size
    have hgl := hown.lt g' rfl
    have hBw := hB0.trans (hBr.mono hB0.size)
    have hal := aheadL_len l (ring.take i)
    have hal2 : (aheadL l (ring.take i)).length ≤ 100 := by rw [List.length_take] at hal; omega
    by_cases hil : i < ring.length
    · obtain ⟨x, hx⟩ := get_some ring i hil
      obtain ⟨gr, e1, hA1⟩ := ha0 i x hx
      subst e1
      have i0 : (0 : Int) ≤ (i : Int) := by omega
      have il : (i : Int) < (ring.length : Int) := by omega
      have hEr := hE0.below hBr
      have hLa := fun w' (hE' : MvsAt w' g l) => LastAhead_any g c Wn l w' hE' hl l.length rfl x _ rfl
      unfold aqC at hLa
      obtain ⟨c0, c1, c2, c3, c4⟩ := hA1.below hBr
      have t0 := (T0.below hBr).c0
      have t1 := (T0.below hBr).c1
      have HS : Hid (aheadL l (ring.take (i + 1)) = aheadL l (ring.take i) ++ (lastQ l x).toList) := by
        rw [Hid, aheadL, List.take_add_one, hx, List.filterMap_append]
        cases h : lastQ l x <;> simp [h, aheadL]
      generalize evI x.ev = vx at *
      generalize lastQ l x = q at *
      have HLa : Hid (∀ w' (hE' : MvsAt w' g l), _) := hLa
      clear hx hA1 hLa
      go_upto_region 5 with fail
      go_region_held3 (fun w' => w'.cell? ⟨w.heap.size, 0, none⟩ = some (.slice (some ⟨g, 0, none⟩) l.length c) ∧ w'.cell? ⟨w.heap.size, 1, none⟩ = some Wn
          ∧ w'.cell? ⟨gr, i * 5, none⟩ = some (.int .i64 x.th) ∧ w'.cell? ⟨gr, i * 5 + 1, none⟩ = some (.int .i64 x.pl) ∧ w'.cell? ⟨gr, i * 5 + 2, none⟩ = some (.string (letS 97 [x.k])) ∧ w'.cell? ⟨gr, i * 5 + 3, none⟩ = some (.string (letS 97 x.hl)) ∧ w'.cell? ⟨gr, i * 5 + 4, none⟩ = some (.int .i64 vx))
        (first | (refine ⟨cell_later ?_ t0, cell_later ?_ t1, cell_later ?_ c0, cell_later ?_ c1, cell_later ?_ c2, cell_later ?_ c3, cell_later ?_ c4⟩ <;> first | exact Below.refl _ _ | exact (Below.refl _ _).drew | exact hx1 | exact hx1.drew) | go_keep)
        (first | (go_at_call 80; refine (HLa.out _ (by first | exact hEr | exact hEr.below (Below.refl _ _).drew)).mono ?_; rintro e w2 ⟨rfl, hbb⟩; unfold lastV; have hx1 : Below wr.heap.size wr w2 := (by first | exact hbb | exact below_of_drew hbb)))
      have hBX : Below (w.heap.size + 1) (trBox w g l.length c Wn) w2 := hB.trans (hx1.mono hsz)
      have hown2 := ownsRow_below hown hx1
      have hsz2 : w.heap.size + 1 ≤ w2.heap.size := Nat.le_trans hsz hx1.size
      clear t0 t1 c0 c1 c2 c3 c4 hown
      cases q with
      | none =>
        have HS2 : Hid (aheadL l (ring.take (i + 1)) = aheadL l (ring.take i)) := by rw [Hid, HS.out]; simp
        clear HS
        go_wp2
        go_roundw
        case rel => exact ⟨i + 1, g', cap, by omega, by go_num, by rw [HS2.out], by rw [HS2.out]; exact hown2, hBX⟩
        case measure => (simp [intOf] <;> omega)
      | some q =>
        have HS2 : Hid (aheadL l (ring.take (i + 1)) = aheadL l (ring.take i) ++ [q]) := HS.out
        clear HS
        go_wp2_with (at_builtin; go_loud (refine wpList_appendLit _ rfl _ _ 22 rfl (w.heap.size + 1) 3 (.int .i64 0) 1 8 Tryd.underlying22 infoInt rfl (by decide) _ _ _ rfl hown2 _ _ rfl rfl rfl ?c2 ?c3 ?c4 ?c5 ?_))
        case c2 => rfl
        case c3 => omega
        case c4 => omega
        case c5 => exact hsz2
        intro v' w5 ho5 hg5 hf5 hn5
        have hB5 := below_grown (hBX.alloc hsz2 _) (by simp; omega) hg5 (fun k hk => by simp [Value.ownBlock] at hk; omega)
        obtain ⟨g2, cap2, hv5⟩ := row_form ho5 hn5
        subst hv5
        clear hg5 hf5 hn5 hown2
        go_wp2
        go_roundw
        case rel =>
          refine ⟨i + 1, g2, cap2, by omega, rfl, by rw [HS2.out]; simp, ?_, hB5⟩
          rw [HS2.out]
          simpa [intV] using ho5
        case measure => (simp [intOf] <;> omega)
    · have il : ¬ (i : Int) < (ring.length : Int) := by omega
      have HI : Hid (ring.take i = ring) := by rw [Hid, show i = ring.length by omega, List.take_length]
      rw [HI.out] at hown
      go_wp2
      go_ret
      exact ⟨g', cap, by rw [HI.out]; rfl, hBw, hown⟩
end Go.Proofs.YtdfndcbakcmgiabDoor
namespace Go.Proofs.YtdfndcbakcmgiabDoor
open Go.RowKit

/-! The threads of some events. -/
def thsE (l : List Mv) (ev : List Nat) : List Nat := ev.map fun i => (l[i]?.map Mv.th).getD 0

set_option maxRecDepth 100000 in
set_option maxHeartbeats 8000000 in
theorem ScheduleT_any (g c : Nat) (Wn : Value) (l : List Mv) (w : World) (hE : MvsAt w g l) (hth : ∀ m ∈ l, m.th < 5) (n : Nat) (hn : n = l.length) (a : Option Addr) (ca : Nat) (ev : List Nat) (hv : ev.length ≤ 100) (hin : ∀ i ∈ ev, i < l.length) (nv : Nat) (hnv : nv = ev.length) (ha : IntsAt w a (intN ev)) :
    Calls Tryd.prog 69 #[.agg #[.slice (some ⟨g, 0, none⟩) n c, Wn], .slice a nv ca] w fun e w' => e = .returned (.string (digS (thsE l ev))) ∧ Below w.heap.size w w' := by
  subst hn hnv
  have hB0 : Below w.heap.size w (trBox w g l.length c Wn) := (Below.refl _ _).alloc (Nat.le_refl _) _
  have T0 := TrIn.new w g l.length c Wn
  have hE0 := hE.below hB0
  have ha0 := ha.below hB0
  have hbs : (trBox w g l.length c Wn).heap.size = w.heap.size + 1 := by simp
  have hr0 : ((trBox w g l.length c Wn).alloc (.cells #[] 5)).ownsRow (w.heap.size + 1) 5 1 (.slice (some ⟨w.heap.size + 1, 0, none⟩) (thsE l (ev.take 0)).length 0) (thsE l (ev.take 0)).length (digV (thsE l (ev.take 0))) := by
    have h := World.ownsRow_lit (trBox w g l.length c Wn) (base := w.heap.size + 1) (e := 5) (size := 1) #[] 0 (by simp) (Nat.zero_le _) rfl
    simpa [thsE, digV] using h
  have hBr0 : Below (w.heap.size + 1) (trBox w g l.length c Wn) ((trBox w g l.length c Wn).alloc (.cells #[] 5)) := by rw [← hbs]; exact (Below.refl _ _).alloc (Nat.le_refl _) _
  have hH := fun (x : Int) w => Has_any (some ⟨g, 0, none⟩) c l.length Wn w x
  go_enter Tryd.func69, Tryd.ntmps69
  go_wp2
  go_loopw [5, 6] (fun v y wr => ∃ i g' cap : Nat, i ≤ ev.length ∧ y = .int .i64 (i : Int) ∧ v = .slice (some ⟨g', 0, none⟩) (thsE l (ev.take i)).length cap ∧ wr.ownsRow (w.heap.size + 1) 5 1 (.slice (some ⟨g', 0, none⟩) (thsE l (ev.take i)).length cap) (thsE l (ev.take i)).length (digV (thsE l (ev.take i))) ∧ Below (w.heap.size + 1) (trBox w g l.length c Wn) wr) (fun _ y _ => ev.length - (intOf y).toNat)
  case atStart => exact ⟨0, w.heap.size + 1, 0, Nat.zero_le _, rfl, rfl, hr0, hBr0⟩
  case round =>
    obtain ⟨i, g', cap, hi, rfl, rfl, hown, hB⟩ := hrel
    clear hr0 hBr0
    have hBr : Below (trBox w g l.length c Wn).heap.size (trBox w g l.length c Wn) wr := by rw [hbs]; exact hB
    have hsz : w.heap.size + 1 ≤ wr.heap.size := by rw [← hbs]; exact hBr.size
    have hgl := hown.lt g' rfl
    have hBw := hB0.trans (hBr.mono hB0.size)
    have hal2 : (thsE l (ev.take i)).length ≤ 100 := by simp [thsE]; omega
    by_cases hil : i < ev.length
    · obtain ⟨x, hx⟩ := get_some ev i hil
      have hxl := hin x (List.mem_of_getElem? hx)
      obtain ⟨b, hb⟩ := get_some l x hxl
      have hb5 := hth b (List.mem_of_getElem? hb)
      obtain ⟨gr, o, e1, c1⟩ := ha0 i (x : Int) (by simp [intN, hx])
      subst e1
      have cr := cell_later hBr c1
      have i0 : (0 : Int) ≤ (i : Int) := by omega
      have il : (i : Int) < (ev.length : Int) := by omega
      have x0 : (0 : Int) ≤ (x : Int) := by omega
      have xl : (x : Int) < (l.length : Int) := by omega
      have hHx := fun w => hH (x : Int) w
      rw [decide_eq_true ⟨x0, xl⟩] at hHx
      obtain ⟨d0, _, _, _⟩ := (hE0.below hBr).get hb
      obtain ⟨dX, _, _, _⟩ := hE0.get hb
      have t0 := (T0.below hBr).c0
      have t1 := (T0.below hBr).c1
      have HS : Hid (thsE l (ev.take (i + 1)) = thsE l (ev.take i) ++ [b.th]) := by
        rw [Hid, thsE, List.take_add_one, hx]
        simp [thsE, hb]
      obtain ⟨i8, hi8, hz0, hz1, hz2⟩ := info_split infoU8
      clear hx hb hH
      go_upto_region 5 with fail
      go_region_held3 (fun w' => w'.cell? ⟨w.heap.size, 0, none⟩ = some (.slice (some ⟨g, 0, none⟩) l.length c) ∧ w'.cell? ⟨w.heap.size, 1, none⟩ = some Wn ∧ w'.cell? ⟨gr, o + i, none⟩ = some (.int .i64 (x : Int)))
        (first | (refine ⟨cell_later ?_ t0, cell_later ?_ t1, cell_later ?_ cr⟩ <;> first | exact Below.refl _ _ | exact (Below.refl _ _).drew | exact hx1 | exact hx1.drew) | go_keep)
        (first | (go_at_call 81; refine (hHx _).mono ?_; rintro e w2 ⟨rfl, hbb⟩; have hx1 : Below wr.heap.size wr w2 := (by first | exact hbb | exact below_of_drew hbb)))
      have hBX : Below (w.heap.size + 1) (trBox w g l.length c Wn) w2 := hB.trans (hx1.mono hsz)
      have hown2 := ownsRow_below hown hx1
      have hsz2 : w.heap.size + 1 ≤ w2.heap.size := Nat.le_trans hsz hx1.size
      have hBX' : Below (trBox w g l.length c Wn).heap.size (trBox w g l.length c Wn) w2 := by rw [hbs]; exact hBX
      have hsX := hBX'.size
      have tX := T0.c0
      have hwr : IntKind.u8.wrap (IntKind.i64.wrap (48 + (b.th : Int))) = 48 + (b.th : Int) := by simp [IntKind.wrap, IntKind.signed, IntKind.bits]; omega
      have HWR : Hid (IntKind.u8.wrap (IntKind.i64.wrap (48 + (b.th : Int))) = 48 + (b.th : Int)) := hwr
      clear t0 t1 cr d0 hown hbb hHx hwr
      go_upto_region 6 with fail
      go_region_held3 (fun w' => w'.cell? ⟨w.heap.size, 0, none⟩ = some (.slice (some ⟨g, 0, none⟩) l.length c) ∧ w'.cell? ⟨gr, o + i, none⟩ = some (.int .i64 (x : Int)) ∧ w'.cell? ⟨g, x * 6, none⟩ = some (.int .i64 (b.th : Int)))
        (refine ⟨cell_later ?_ tX, cell_later ?_ c1, cell_later ?_ dX⟩ <;> first | exact hBX' | exact hBX'.drew | exact hBX'.alloc hsX _ | exact (hBX'.alloc hsX _).drew | exact hBX'.drew.alloc hsX _ | exact hB4)
        (first | (refine step_append_lies _ (by rfl) _ _ _ (by rfl) (w.heap.size + 1) 5 i8 _ 1 1 Tryd.underlying47 hi8 hz0 hz1 hz2 rfl (by omega) _ (thsE l (ev.take i)).length (digV (thsE l (ev.take i))) (by rfl) ((hown2.alloc _).drew) ⟨w2.heap.size, 0, none⟩ 1 1 [.int .u8 (IntKind.u8.wrap (IntKind.i64.wrap (48 + (b.th : Int))))] (by rfl) (by rfl) (World.news_of_block (cs := #[.int .u8 (IntKind.u8.wrap (IntKind.i64.wrap (48 + (b.th : Int))))]) (t := 5) (fr := (0, 0)) (heap_alloc_new w2 _)) (by simp [Value.oneCell']) (by omega) (by unfold maxLen; omega) (by omega) (by simp; omega) (w2.heap.size + 1) (by simp) ?_; intro gg cap4 w4 hown4 hgrow hat hlt; have hB4 : Below (trBox w g l.length c Wn).heap.size (trBox w g l.length c Wn) w4 := ((hBX'.alloc hsX _).drew.grown hgrow (by simp; omega) (fun k hk => by rw [hbs]; exact (World.ownsRow.lt hown2 k hk).1))))
      all_goals
        go_wp2_with fail
        go_roundw
        case rel =>
          refine ⟨i + 1, gg, cap4, by omega, rfl, by rw [HS.out]; simp, ?_, by rw [← hbs]; exact hB4⟩
          rw [HS.out]
          rw [HWR.out] at hown4
          simpa [digV] using hown4
        case measure => (simp [intOf] <;> omega)
    · have il : ¬ (i : Int) < (ev.length : Int) := by omega
      have HI : Hid (ev.take i = ev) := by rw [Hid, show i = ev.length by omega, List.take_length]
      rw [HI.out] at hown
      have hcv := conv_dig hown
      rw [← HI.out] at hcv
      go_wp2
      go_ret
      exact ⟨by rw [HI.out]; rfl, hBw⟩
end Go.Proofs.YtdfndcbakcmgiabDoor
namespace Go.Proofs.YtdfndcbakcmgiabDoor
open Go.RowKit

/-! What is said of a ring. -/
noncomputable def closeF (log : List Ev) (ev : List Nat) : List Nat := Classical.choose (closeL_ex log (intN ev))
theorem closeF_len (log : List Ev) (ev : List Nat) : (closeF log ev).length ≤ log.length := (Classical.choose_spec (closeL_ex log (intN ev))).1
theorem closeF_eq {log : List Ev} {ev : List Nat} {m : List Bool} (h1 : MidS log (markE 60 (intN ev)) m) (h2 : ClosedS log m) : listB m log.length = closeF log ev := (Classical.choose_spec (closeL_ex log (intN ev))).2 m h1 h2
noncomputable def judgeV (log : List Ev) (ring : List Aq) : Int × List Nat :=
  if gatedB ring = true then (1, []) else if orderedB (log.map mvE) ring = true then (2, []) else
  if boundB ring (closeF log (aheadL (log.map mvE) ring)) = true then (3, []) else (4, thsE (log.map mvE) (closeF log (aheadL (log.map mvE) ring)))
theorem lastN_lt {l : List Mv} {t : Nat} : ∀ {n i : Nat}, lastN l t n = some i → i < n ∧ (l[i]?.map fun a => decide (a.th = t)).getD false = true
  | 0, i, h => by simp [lastN] at h
  | n + 1, i, h => by
    rw [lastN] at h
    split at h
    · rename_i h2; cases h; exact ⟨by omega, h2⟩
    · have := lastN_lt h; exact ⟨by omega, this.2⟩
theorem aheadL_in (l : List Mv) (ring : List Aq) : ∀ i ∈ aheadL l ring, i < l.length := by
  intro i hi
  obtain ⟨x, _, hx⟩ := List.mem_filterMap.1 hi
  have := (lastN_lt hx).1
  have : toN x l.length ≤ l.length := by unfold toN; split <;> omega
  omega
theorem listB_in (m : List Bool) (n : Nat) : ∀ i ∈ listB m n, i < n := fun i hi => by
  have := (List.mem_filter.1 hi).1
  simpa using this

theorem CloseF_any (g c : Nat) (Wn : Value) {N : Nat} (log : List Ev) (hL : ∀ v ∈ log, EvOk N v) (w : World) (hE : MvsAt w g (log.map mvE)) (hl : log.length ≤ 60) (b : Option Addr) (cb : Nat) (L : List Nat) (hv : L.length ≤ 1000) (hin : ∀ i ∈ L, i < log.length) (hb : IntsAt w b (intN L)) :
    Calls Tryd.prog 67 #[.agg #[.slice (some ⟨g, 0, none⟩) log.length c, Wn], .slice b L.length cb] w fun e w' => ∃ g' c', e = .returned (.slice (some ⟨g', 0, none⟩) (closeF log L).length c') ∧ Below w.heap.size w w' ∧ IntsAt w' (some ⟨g', 0, none⟩) (intN (closeF log L)) ∧ ∀ i ∈ closeF log L, i < log.length := by
  have hiA : (intN L).length = L.length := by simp [intN]
  have h := CloseT_any g c Wn log hL b cb (intN L) (by rw [hiA]; unfold maxLen; omega) (fun x hx => by
    obtain ⟨i, hi, rfl⟩ := List.mem_map.1 hx
    have := hin i hi
    omega) w hE hb hl
  rw [hiA] at h
  refine h.mono ?_
  rintro e w' ⟨g', c', m, he, hB, ho, _, h1, h2⟩
  have hF := closeF_eq h1 h2
  rw [hF] at he ho
  exact ⟨g', c', he, hB, intsAt_rowV rfl ho, fun i hi => listB_in m log.length i (by rw [hF]; exact hi)⟩
theorem listAheadF_any (g c : Nat) (Wn : Value) (l : List Mv) (w : World) (hE : MvsAt w g l) (hl : l.length ≤ 60) (n : Nat) (hn : n = l.length) (a : Option Addr) (ca : Nat) (ring : List Aq) (hr : ring.length ≤ 100) (nr : Nat) (hnr : nr = ring.length) (ha : AqsAt w a ring) :
    Calls Tryd.prog 66 #[.agg #[.slice (some ⟨g, 0, none⟩) n c, Wn], .slice a nr ca] w fun e w' => ∃ g' c', e = .returned (.slice (some ⟨g', 0, none⟩) (aheadL l ring).length c') ∧ Below w.heap.size w w' ∧ IntsAt w' (some ⟨g', 0, none⟩) (intN (aheadL l ring)) :=
  (listAhead_any g c Wn l w hE hl n hn a ca ring hr nr hnr ha).mono fun _ _ ⟨g', c', he, hB, ho⟩ => ⟨g', c', he, hB, intsAt_rowV rfl ho⟩

set_option maxRecDepth 100000 in
set_option maxHeartbeats 8000000 in
theorem judge_any (g c : Nat) (Wn : Value) {N : Nat} (log : List Ev) (hL : ∀ v ∈ log, EvOk N v) (hN : N ≤ 5) (w : World) (hE : MvsAt w g (log.map mvE)) (hl : log.length ≤ 60) (n : Nat) (hn : n = log.length) (a : Option Addr) (ca : Nat) (ring : List Aq) (hr : ring.length ≤ 100) (hok : ∀ x ∈ ring, x.Ok) (nr : Nat) (hnr : nr = ring.length) (ha : AqsAt w a ring) :
    Calls Tryd.prog 48 #[.agg #[.slice (some ⟨g, 0, none⟩) n c, Wn], .slice a nr ca] w fun e w' => e = .returned (.tuple #[.int .i64 (judgeV log ring).1, .string (digS (judgeV log ring).2)]) ∧ Below w.heap.size w w' := by
  subst hn hnr
  have hml : (log.map mvE).length = log.length := List.length_map ..
  have hth : ∀ m ∈ log.map mvE, m.th < 5 := fun m hm => by
    obtain ⟨v, hv, rfl⟩ := List.mem_map.1 hm
    obtain ⟨t, h1, h2⟩ := (hL v hv).th
    simp only [mvE, h1]; omega
  have hB0 : Below w.heap.size w (trBox w g log.length c Wn) := (Below.refl _ _).alloc (Nat.le_refl _) _
  have T0 := TrIn.new w g log.length c Wn
  have hE0 := hE.below hB0
  have ha0 := ha.below hB0
  have hGa := gated_any a ca ring hr hok ring.length rfl (trBox w g log.length c Wn) ha0
  have HOr := fun w' (hE' : MvsAt w' g (log.map mvE)) (ha' : AqsAt w' a ring) => ordered_any g c Wn (log.map mvE) w' hE' (by omega) log.length hml.symm a ca ring hr ring.length rfl ha'
  have HAh := fun w' (hE' : MvsAt w' g (log.map mvE)) (ha' : AqsAt w' a ring) => listAheadF_any g c Wn (log.map mvE) w' hE' (by omega) log.length hml.symm a ca ring hr ring.length rfl ha'
  have HBo := fun w' b cb (L : List Nat) (hv : L.length ≤ 100) (ha' : AqsAt w' a ring) (hb : IntsAt w' b (intN L)) => bound_any a b ca cb ring L hr hv ring.length L.length rfl rfl w' ha' hb
  have HCl := fun w' (hE' : MvsAt w' g (log.map mvE)) b cb (L : List Nat) hv hin hb => CloseF_any g c Wn log hL w' hE' hl b cb L hv hin hb
  have HSc := fun w' (hE' : MvsAt w' g (log.map mvE)) b cb (L : List Nat) (hv : L.length ≤ 100) (hin : ∀ i ∈ L, i < log.length) (hb : IntsAt w' b (intN L)) => ScheduleT_any g c Wn (log.map mvE) w' hE' hth log.length hml.symm b cb L hv (by rw [hml]; exact hin) L.length rfl hb
  generalize hJ : judgeV log ring = J
  rw [judgeV] at hJ
  generalize hX : trBox w g log.length c Wn = X at *
  have HX : Hid (w.alloc (.cells #[.slice (some ⟨g, 0, none⟩) log.length c, Wn] 52) = X) := hX
  clear hX
  cases hg : gatedB ring with
  | true =>
    rw [hg, if_pos rfl] at hJ
    subst hJ
    rw [hg] at hGa
    clear HOr HAh HBo HCl HSc
    go_enter Tryd.func48, Tryd.ntmps48
    go_upto_region 1 with fail
    rw [HX.out]
    go_wp2_with (first | (go_at_call 64; refine hGa.mono ?_; rintro e w3 ⟨rfl, m3, rfl⟩))
    go_ret2
    exact ⟨rfl, hB0.trans ((below_drewN _ _).mono hB0.size)⟩
  | false =>
    rw [hg, if_neg (by decide)] at hJ
    rw [hg] at hGa
    have x0 := T0.c0
    have x1 := T0.c1
    cases ho : orderedB (log.map mvE) ring with
    | true =>
      rw [ho, if_pos rfl] at hJ
      subst hJ
      rw [ho] at HOr
      clear HAh HBo HCl HSc
      go_enter Tryd.func48, Tryd.ntmps48
      go_upto_region 1 with fail
      rw [HX.out]
      go_wp2_with (first
        | (go_at_call 64; refine hGa.mono ?_; rintro e w3 ⟨rfl, m3, rfl⟩)
        | (go_at_call 65; refine (HOr _ (hE0.below (below_drewN _ _)) (ha0.below (below_drewN _ _))).mono ?_; rintro e w4 ⟨rfl, hb4⟩))
      go_ret2
      exact ⟨rfl, hB0.trans ((below_of_drewN hb4).mono hB0.size)⟩
    | false =>
      rw [ho, if_neg (by decide)] at hJ
      rw [ho] at HOr
      generalize hA : aheadL (log.map mvE) ring = A at *
      have hAl : A.length ≤ 100 := by rw [← hA]; exact Nat.le_trans (aheadL_len _ _) hr
      have hAin : ∀ i ∈ A, i < log.length := fun i hi => by
        rw [← hA] at hi
        have := aheadL_in _ _ i hi
        rw [hml] at this
        exact this
      have hFl := closeF_len log A
      have HCl2 := fun w' hE' b cb hb => HCl w' hE' b cb A (by omega) hAin hb
      clear HCl hA
      generalize closeF log A = F at *
      have HBo2 := fun w' b cb ha' hb => HBo w' b cb F (by omega) ha' hb
      have HSc2 := fun w' hE' b cb hin hb => HSc w' hE' b cb F (by omega) hin hb
      clear HBo HSc
      have HK : Hid (∀ w', Below X.heap.size X w' → MvsAt w' g (log.map mvE) ∧ AqsAt w' a ring ∧ w'.cell? ⟨w.heap.size, 0, none⟩ = some (.slice (some ⟨g, 0, none⟩) log.length c) ∧ w'.cell? ⟨w.heap.size, 1, none⟩ = some Wn) := fun w' hb => ⟨hE0.below hb, ha0.below hb, cell_later hb x0, cell_later hb x1⟩
      cases hbd : boundB ring F with
      | true =>
        rw [hbd, if_pos rfl] at hJ
        subst hJ
        rw [hbd] at HBo2
        clear HSc2
        go_enter Tryd.func48, Tryd.ntmps48
        go_upto_region 1 with fail
        rw [HX.out]
        go_wp2_with (first
          | (go_at_call 64; refine hGa.mono ?_; rintro e w3 ⟨rfl, m3, rfl⟩)
          | (go_at_call 65; refine (HOr _ (hE0.below (below_drewN _ _)) (ha0.below (below_drewN _ _))).mono ?_; rintro e w4 ⟨rfl, hb4'⟩; have hb4 := below_of_drewN hb4'; obtain ⟨k1, k2, k3, k4⟩ := HK.out w4 hb4)
          | (go_at_call 66; refine (HAh _ k1 k2).mono ?_; rintro e w5 ⟨g5, c5, rfl, hb5', hi5⟩; have hb5 := hb4.trans (hb5'.mono hb4.size); obtain ⟨l1, l2, l3, l4⟩ := HK.out w5 hb5)
          | (go_at_call 67; refine (HCl2 _ l1 _ _ hi5).mono ?_; rintro e w6 ⟨g6, c6, rfl, hb6', hi6, hin6⟩; have hb6 := hb5.trans (hb6'.mono hb5.size); obtain ⟨m1, m2, m3, m4⟩ := HK.out w6 hb6)
          | (go_at_call 68; refine (HBo2 _ _ _ m2 hi6).mono ?_; rintro e w7 ⟨rfl, m7, rfl⟩))
        go_ret2
        exact ⟨rfl, hB0.trans ((hb6.trans ((below_drewN _ _).mono hb6.size)).mono hB0.size)⟩
      | false =>
        rw [hbd, if_neg (by decide)] at hJ
        subst hJ
        rw [hbd] at HBo2
        go_enter Tryd.func48, Tryd.ntmps48
        go_upto_region 1 with fail
        rw [HX.out]
        go_wp2_with (first
          | (go_at_call 64; refine hGa.mono ?_; rintro e w3 ⟨rfl, m3, rfl⟩)
          | (go_at_call 65; refine (HOr _ (hE0.below (below_drewN _ _)) (ha0.below (below_drewN _ _))).mono ?_; rintro e w4 ⟨rfl, hb4'⟩; have hb4 := below_of_drewN hb4'; obtain ⟨k1, k2, k3, k4⟩ := HK.out w4 hb4)
          | (go_at_call 66; refine (HAh _ k1 k2).mono ?_; rintro e w5 ⟨g5, c5, rfl, hb5', hi5⟩; have hb5 := hb4.trans (hb5'.mono hb4.size); obtain ⟨l1, l2, l3, l4⟩ := HK.out w5 hb5)
          | (go_at_call 67; refine (HCl2 _ l1 _ _ hi5).mono ?_; rintro e w6 ⟨g6, c6, rfl, hb6', hi6, hin6⟩; have hb6 := hb5.trans (hb6'.mono hb5.size); obtain ⟨m1, m2, m3, m4⟩ := HK.out w6 hb6)
          | (go_at_call 68; refine (HBo2 _ _ _ m2 hi6).mono ?_; rintro e w7 ⟨rfl, m7, hw7⟩; have hb7' : Below w6.heap.size w6 w7 := (by rw [hw7]; exact below_drewN _ _); clear hw7; have hb7 := hb6.trans (hb7'.mono hb6.size); obtain ⟨n1, n2, n3, n4⟩ := HK.out w7 hb7)
          | (go_at_call 69; refine (HSc2 _ n1 _ _ hin6 (hi6.below hb7')).mono ?_; rintro e w8 ⟨rfl, hb8⟩))
        go_ret2
        exact ⟨rfl, hB0.trans ((hb7.trans (hb8.mono hb7.size)).mono hB0.size)⟩
end Go.Proofs.YtdfndcbakcmgiabDoor
namespace Go.Proofs.YtdfndcbakcmgiabDoor
open Go.RowKit

/-! A chain of asks, by their numbers. -/
def pAt (p : List Nat) (i : Nat) : Nat := p[i]?.getD 0
def chC (p : List Nat) : Array Value := #[.int .i64 (pAt p 0), .int .i64 (pAt p 1), .int .i64 (pAt p 2), .int .i64 (pAt p 3), .int .i64 (pAt p 4), .int .i64 p.length]
theorem pAt_get {p : List Nat} {i k : Nat} (h : p[i]? = some k) : pAt p i = k := by rw [pAt, h]; rfl
abbrev chBox (w : World) (p : List Nat) : World := w.alloc (.cells (chC p) 95)
theorem chC_at (p : List Nat) (i : Nat) (hi : i < 5) : (chC p)[i]? = some (.int .i64 (pAt p i)) := by
  match i, hi with
  | 0, _ => rfl
  | 1, _ => rfl
  | 2, _ => rfl
  | 3, _ => rfl
  | 4, _ => rfl

set_option maxRecDepth 100000 in
set_option maxHeartbeats 8000000 in
theorem leadsC_any (f : Nat) (a : Option Addr) (ca : Nat) (la : List Aq) (hok : ∀ x ∈ la, x.Ok) (w : World) (h0 : w.cell? ⟨f, 0, none⟩ = some (.slice a la.length ca)) (ha : AqsAt w a la)
    (p : List Nat) (m k : Nat) (hm : p.length = m + 1) (hm5 : m < 5) (hk : p[m]? = some k) (x y : Aq) (hx : la[k]? = some x) (hy : y.Ok) (cs ds : Array Value) (hcs : cs = chC p) (hds : ds = aqC y) :
    Calls Tryd.prog 77 #[.pointer (some ⟨f, 0, none⟩), .agg cs, .agg ds] w fun e w' => e = .returned (.bool (shareB [x.k] y.hl)) ∧ Below w.heap.size w w' := by
  subst hcs hds
  have hB1 : Below w.heap.size w (akBox (chBox w p) y) := (two_new (Below.refl _ _)).2.2.1
  have p5 : (akBox (chBox w p) y).cell? ⟨w.heap.size, 5, none⟩ = some (.int .i64 p.length) := by exact cellB (heap_alloc2_old _ _ _) rfl
  have pm : (akBox (chBox w p) y).cell? ⟨w.heap.size, m, none⟩ = some (.int .i64 (k : Int)) := by
    rw [← pAt_get hk]; exact cellB (heap_alloc2_old _ _ _) (chC_at p m hm5)
  have y3 : (akBox (chBox w p) y).cell? ⟨w.heap.size + 1, 3, none⟩ = some (.string (letS 97 y.hl)) := cellB (heap_alloc2_new _ _ _) rfl
  have f0 := cell_later hB1 h0
  obtain ⟨g, e1, c0, c1, c2, c3, c4⟩ := (ha.below hB1) k x hx
  subst e1
  have hkl : k < la.length := (List.getElem?_eq_some_iff.1 hx).1
  have hxo := hok x (List.mem_of_getElem? hx)
  have hS := fun w => share_any [x.k] y.hl (by simp) (by have := hy.len; omega) (by simpa using hxo.k) hy.hl w
  have hs2 : (akBox (chBox w p) y).heap.size = w.heap.size + 2 := by simp
  unfold akBox chBox at p5 pm y3 f0 c0 c1 c2 c3 c4 hB1 hs2
  unfold chC aqC at p5 pm y3 f0 c0 c1 c2 c3 c4 hB1 hs2 ⊢
  generalize p.length = q at *
  generalize hX : (w.alloc (.cells #[.int .i64 (pAt p 0), .int .i64 (pAt p 1), .int .i64 (pAt p 2), .int .i64 (pAt p 3), .int .i64 (pAt p 4), .int .i64 q] 95)).alloc (.cells #[.int .i64 y.th, .int .i64 y.pl, .string (letS 97 [y.k]), .string (letS 97 y.hl), .int .i64 (evI y.ev)] 37) = X at *
  have HX := show Hid _ from hX
  clear hX
  have m0 : (0 : Int) ≤ (m : Int) := by omega
  have m5 : (m : Int) < 5 := by omega
  have mm : (q : Int) - 1 = (m : Int) := by omega
  have k0 : (0 : Int) ≤ (k : Int) := by omega
  have kl : (k : Int) < (la.length : Int) := by omega
  generalize evI x.ev = vx at *
  clear hx hk ha hm
  go_enter Tryd.func77, Tryd.ntmps77
  go_upto_region 1 with fail
  rw [HX.out]
  have hwm : IntKind.i64.wrap (m : Int) = (m : Int) := by simp [IntKind.wrap, IntKind.signed, IntKind.bits]; omega
  go_region_held3 (fun w' => w'.cell? ⟨f, 0, none⟩ = some (.slice (some ⟨g, 0, none⟩) la.length ca) ∧ w'.cell? ⟨w.heap.size, 5, none⟩ = some (.int .i64 (q : Int)) ∧ w'.cell? ⟨w.heap.size, m, none⟩ = some (.int .i64 (k : Int))
      ∧ w'.cell? ⟨g, k * 5, none⟩ = some (.int .i64 x.th) ∧ w'.cell? ⟨g, k * 5 + 1, none⟩ = some (.int .i64 x.pl) ∧ w'.cell? ⟨g, k * 5 + 2, none⟩ = some (.string (letS 97 [x.k])) ∧ w'.cell? ⟨g, k * 5 + 3, none⟩ = some (.string (letS 97 x.hl)) ∧ w'.cell? ⟨g, k * 5 + 4, none⟩ = some (.int .i64 vx))
    (first | (refine ⟨cell_later ?_ f0, cell_later ?_ p5, cell_later ?_ pm, cell_later ?_ c0, cell_later ?_ c1, cell_later ?_ c2, cell_later ?_ c3, cell_later ?_ c4⟩ <;> first | exact Below.refl _ _ | exact (Below.refl _ _).drew | exact (Below.refl _ _).alloc (Nat.le_refl _) _ | exact ((Below.refl _ _).alloc (Nat.le_refl _) _).drew | exact (Below.refl _ _).drew.alloc (Nat.le_refl _) _) | go_keep)
    (fail)
  all_goals
    go_wp2_with (first | (go_at_call 78; refine (hS _).mono ?_; rintro e w3 ⟨rfl, m3, rfl⟩))
    go_ret
    have hBa := hB1.alloc hB1.size (.cells #[.int .i64 x.th, .int .i64 x.pl, .string (letS 97 [x.k]), .string (letS 97 x.hl), .int .i64 vx] 37)
    exact ⟨rfl, hBa.trans ((below_drewN _ _).mono hBa.size)⟩
end Go.Proofs.YtdfndcbakcmgiabDoor
namespace Go.Proofs.YtdfndcbakcmgiabDoor
open Go.RowKit

/-! May an ask stand next in a chain? -/
def aqOf (la : List Aq) (i : Nat) : Aq := la[i]?.getD ⟨0, 0, 0, [], none⟩
theorem aqOf_get {la : List Aq} {i : Nat} {x : Aq} (h : la[i]? = some x) : aqOf la i = x := by rw [aqOf, h]; rfl
def apartB (x y : Aq) : Bool := !decide (x.th = y.th) && !decide (x.k = y.k)
def fitsB (la : List Aq) (p : List Nat) (k : Nat) : Bool :=
  p.isEmpty || (!decide ((aqOf la k).th < (aqOf la (pAt p 0)).th) && (p.all fun i => apartB (aqOf la i) (aqOf la k)) && shareB [(aqOf la (pAt p (p.length - 1))).k] (aqOf la k).hl)
abbrev aqO (x : Aq) : Obj := .cells #[.int .i64 x.th, .int .i64 x.pl, .string (letS 97 [x.k]), .string (letS 97 x.hl), .int .i64 (evI x.ev)] 37
theorem letS_one' (a b : Nat) (ha : a < 6) (hb : b < 6) : ((letS 97 [a]).toList == (letS 97 [b]).toList) = decide (a = b) := letS_one a b (by omega) (by omega)

set_option maxRecDepth 100000 in
set_option maxHeartbeats 8000000 in
theorem fits_any (f : Nat) (a : Option Addr) (ca : Nat) (la : List Aq) (hok : ∀ x ∈ la, x.Ok) (w : World) (h0 : w.cell? ⟨f, 0, none⟩ = some (.slice a la.length ca)) (ha : AqsAt w a la)
    (p : List Nat) (hp5 : p.length ≤ 5) (hin : ∀ i ∈ p, i < la.length) (k : Nat) (hk : k < la.length) (cs : Array Value) (hcs : cs = chC p) (kI : Int) (hkI : kI = k) :
    Calls Tryd.prog 63 #[.pointer (some ⟨f, 0, none⟩), .agg cs, .int .i64 kI] w fun e w' => e = .returned (.bool (fitsB la p k)) ∧ Below w.heap.size w w' := by
  subst hcs hkI
  have hB1 : Below w.heap.size w (chBox w p) := (Below.refl _ _).alloc (Nat.le_refl _) _
  have hs1 : (chBox w p).heap.size = w.heap.size + 1 := by simp
  have pA : ∀ i, i < 5 → (chBox w p).cell? ⟨w.heap.size, i, none⟩ = some (.int .i64 (pAt p i)) := fun i hi => cellB (heap_alloc_new _ _) (chC_at p i hi)
  have p5 : (chBox w p).cell? ⟨w.heap.size, 5, none⟩ = some (.int .i64 p.length) := cellB (heap_alloc_new _ _) rfl
  have hld : ∀ w', Below (chBox w p).heap.size (chBox w p) w' → ∀ i v, (chC p)[i]? = some v → w'.cell? ⟨w.heap.size, i, none⟩ = some v := fun w' hb i v hv => cell_later hb (cellB (heap_alloc_new _ _) hv)
  obtain ⟨y, hy⟩ := get_some la k hk
  have hyo := hok y (List.mem_of_getElem? hy)
  have haX := ha.below hB1
  obtain ⟨g, e1, c0, c1, c2, c3, c4⟩ := haX k y hy
  subst e1
  have f0 := cell_later hB1 h0
  have k0 : (0 : Int) ≤ (k : Int) := by omega
  have kl : (k : Int) < (la.length : Int) := by omega
  by_cases hp : p = []
  · subst hp
    have hr : fitsB la [] k = true := rfl
    rw [hr]
    unfold chC
    go_enter Tryd.func63, Tryd.ntmps63
    go_wp2
    go_ret
    exact ⟨rfl, hB1⟩
  · obtain ⟨m, hm⟩ : ∃ m, p.length = m + 1 := ⟨p.length - 1, by have := List.length_pos_iff.2 hp; omega⟩
    obtain ⟨i0, hi0⟩ := get_some p 0 (by omega)
    have hi0l := hin i0 (List.mem_of_getElem? hi0)
    obtain ⟨x0, hx0⟩ := get_some la i0 hi0l
    have q0 := pA 0 (by omega)
    rw [pAt_get hi0] at q0
    obtain ⟨g2, e2, b0, _, _, _, _⟩ := haX i0 x0 hx0
    simp only [Option.some.injEq, Addr.mk.injEq, and_true] at e2
    subst e2
    have i00 : (0 : Int) ≤ (i0 : Int) := by omega
    have i0l : (i0 : Int) < (la.length : Int) := by omega
    have hne : ((p.length : Int) == 0) = false := beq_false_of_ne (by omega)
    generalize hres : fitsB la p k = res
    have hrs : res = (!decide (y.th < x0.th) && (p.all fun i => apartB (aqOf la i) y) && shareB [(aqOf la (pAt p m)).k] y.hl) := by
      rw [← hres, fitsB, aqOf_get hy, pAt_get hi0, aqOf_get hx0, hm, Nat.add_sub_cancel]
      cases p with
      | nil => exact absurd rfl hp
      | cons _ _ => rfl
    clear hres
    have HP : Hid (p.length = m + 1) := hm
    have hchC : chC p = #[.int .i64 (pAt p 0), .int .i64 (pAt p 1), .int .i64 (pAt p 2), .int .i64 (pAt p 3), .int .i64 (pAt p 4), .int .i64 p.length] := rfl
    rw [hchC]
    generalize hX : chBox w p = X at *
    have HX : Hid (w.alloc (.cells #[.int .i64 (pAt p 0), .int .i64 (pAt p 1), .int .i64 (pAt p 2), .int .i64 (pAt p 3), .int .i64 (pAt p 4), .int .i64 p.length] 95) = X) := hX
    have hBa := (Below.refl X.heap.size X).alloc (Nat.le_refl _) (aqO y)
    have d0 := cell_later hBa b0
    have d1 := cell_later hBa q0
    have d2 := cell_later hBa f0
    clear hX hm
    by_cases hlt : y.th < x0.th
    · have hr : res = false := by rw [hrs, decide_eq_true hlt]; rfl
      subst hr
      have hltI : (y.th : Int) < (x0.th : Int) := by omega
      clear hrs
      go_enter Tryd.func63, Tryd.ntmps63
      go_upto_region 1 with fail
      rw [HX.out]
      go_upto_region 4 with fail
      go_quiet (fail)
      go_wp2
      go_ret
      have hBz := hB1.alloc hB1.size (aqO y)
      exact ⟨rfl, hBz.trans ((below_drewN _ _).mono hBz.size)⟩
    · have hltI : ¬ (y.th : Int) < (x0.th : Int) := by omega
      have hltN : decide (y.th < x0.th) = false := decide_eq_false hlt
      have hltM : decide ((y.th : Int) < (x0.th : Int)) = false := decide_eq_false hltI
      rw [hltN] at hrs
      obtain ⟨km, hkm⟩ := get_some p m (by rw [HP.out]; omega)
      obtain ⟨xm, hxm⟩ := get_some la km (hin km (List.mem_of_getElem? hkm))
      rw [pAt_get hkm, aqOf_get hxm] at hrs
      have HR : Hid (res = ((p.all fun i => apartB (aqOf la i) y) && shareB [xm.k] y.hl)) := by rw [Hid, hrs]; rfl
      have hLd := fun w' h0' ha' => leadsC_any f (some ⟨g, 0, none⟩) ca la hok w' h0' ha' p m km HP.out (by have := HP.out; omega) hkm xm y hxm hyo _ _ rfl rfl
      unfold chC aqC at hLd
      have hBX := (Below.refl X.heap.size X).alloc (Nat.le_refl _) (aqO y)
      have y0 : ∀ i v, #[Value.int .i64 y.th, .int .i64 y.pl, .string (letS 97 [y.k]), .string (letS 97 y.hl), .int .i64 (evI y.ev)][i]? = some v → (X.alloc (aqO y)).cell? ⟨w.heap.size + 1, i, none⟩ = some v := fun i v hv => by
        rw [← hs1]; exact cellB (heap_alloc_new _ _) hv
      have z0 := y0 0 _ rfl
      have z1 := y0 1 _ rfl
      have z2 := y0 2 _ rfl
      have z3 := y0 3 _ rfl
      have z4 := y0 4 _ rfl
      have HA : Hid (∀ w', Below (X.alloc (aqO y)).heap.size (X.alloc (aqO y)) w' → AqsAt w' (some ⟨g, 0, none⟩) la) := fun w' hb => (haX.below hBX).below hb
      have HPc : Hid (∀ w', Below (X.alloc (aqO y)).heap.size (X.alloc (aqO y)) w' → (∀ i, i < 5 → w'.cell? ⟨w.heap.size, i, none⟩ = some (.int .i64 (pAt p i))) ∧ w'.cell? ⟨w.heap.size, 5, none⟩ = some (.int .i64 p.length)) := fun w' hb => ⟨fun i hi => cell_later hb (cell_later hBX (pA i hi)), cell_later hb (cell_later hBX p5)⟩
      have hBw := hB1.alloc hB1.size (aqO y)
      clear hrs y0 hkm hxm pA hld hy hi0 hx0 hchC
      go_enter Tryd.func63, Tryd.ntmps63
      go_upto_region 1 with fail
      rw [HX.out]
      go_upto_region 4 with fail
      go_quiet (fail)
      go_wp2
      generalize hY : X.alloc (aqO y) = Y at *
      go_loopw [8] (fun v wr => ∃ i : Nat, i ≤ p.length ∧ v = .int .i64 (i : Int) ∧ Hid (∀ j, j ∈ p.take i → apartB (aqOf la j) y = true) ∧ Below Y.heap.size Y wr) (fun v _ => p.length - (intOf v).toNat)
      case atStart => exact ⟨0, Nat.zero_le _, rfl, by simp [Hid], below_drewN _ _⟩
      case round =>
        obtain ⟨i, hi, rfl, HN, hBr⟩ := hrel
        have haR := HA.out wr hBr
        obtain ⟨pR, p5R⟩ := HPc.out wr hBr
        have f0R := cell_later hBr d2
        have t0 := cell_later hBr z0
        have t1 := cell_later hBr z1
        have t2 := cell_later hBr z2
        have t3 := cell_later hBr z3
        have t4 := cell_later hBr z4
        have hBwr := hBw.trans (hBr.mono hBw.size)
        by_cases hil : i < p.length
        · obtain ⟨j, hj⟩ := get_some p i hil
          have hjm := List.mem_of_getElem? hj
          obtain ⟨z, hz⟩ := get_some la j (hin j hjm)
          have hzo := hok z (List.mem_of_getElem? hz)
          have pj := pR i (by omega)
          rw [pAt_get hj] at pj
          obtain ⟨g3, e3, v0, v1, v2, v3, v4⟩ := haR j z hz
          simp only [Option.some.injEq, Addr.mk.injEq, and_true] at e3
          subst e3
          have i0 : (0 : Int) ≤ (i : Int) := by omega
          have il : (i : Int) < (p.length : Int) := by omega
          have i5 : (i : Int) < 5 := by omega
          have j0 : (0 : Int) ≤ (j : Int) := by omega
          have jl : (j : Int) < (la.length : Int) := by have := hin j hjm; omega
          have hst := letS_one' z.k y.k hzo.k hyo.k
          have HN2 : Hid (apartB z y = true → ∀ j, j ∈ p.take (i + 1) → apartB (aqOf la j) y = true) := by
            intro h q hq
            rw [List.take_add_one, hj] at hq
            rcases List.mem_append.1 hq with hq | hq
            · exact HN.out q hq
            · simp at hq; subst hq; rw [aqOf_get hz]; exact h
          have HF : Hid (apartB z y = false → res = false) := by
            intro h
            rw [HR.out]
            have : (p.all fun i => apartB (aqOf la i) y) = false := by
              rw [Bool.eq_false_iff]
              intro hh
              have := List.all_eq_true.1 hh j hjm
              simp only [aqOf_get hz, h] at this
              cases this
            rw [this]; rfl
          generalize evI z.ev = vz at *
          clear hj hz hLd HA HPc pR
          go_upto_region 9 with fail
          go_region_held3 (fun w' => w'.cell? ⟨f, 0, none⟩ = some (.slice (some ⟨g, 0, none⟩) la.length ca) ∧ w'.cell? ⟨w.heap.size, i, none⟩ = some (.int .i64 (j : Int))
              ∧ w'.cell? ⟨g, j * 5, none⟩ = some (.int .i64 z.th) ∧ w'.cell? ⟨g, j * 5 + 1, none⟩ = some (.int .i64 z.pl) ∧ w'.cell? ⟨g, j * 5 + 2, none⟩ = some (.string (letS 97 [z.k])) ∧ w'.cell? ⟨g, j * 5 + 3, none⟩ = some (.string (letS 97 z.hl)) ∧ w'.cell? ⟨g, j * 5 + 4, none⟩ = some (.int .i64 vz))
            (first | (refine ⟨cell_later ?_ f0R, cell_later ?_ pj, cell_later ?_ v0, cell_later ?_ v1, cell_later ?_ v2, cell_later ?_ v3, cell_later ?_ v4⟩ <;> first | exact Below.refl _ _ | exact (Below.refl _ _).drew | exact (Below.refl _ _).alloc (Nat.le_refl _) _ | exact ((Below.refl _ _).alloc (Nat.le_refl _) _).drew | exact (Below.refl _ _).drew.alloc (Nat.le_refl _) _) | go_keep)
            (fail)
          have hBz := (Below.refl wr.heap.size wr).alloc (Nat.le_refl _) (.cells #[.int .i64 z.th, .int .i64 z.pl, .string (letS 97 [z.k]), .string (letS 97 z.hl), .int .i64 vz] 37)
          have s0 := cell_later hBz t0
          have s2 := cell_later hBz t2
          have hBZ := hBr.trans (hBz.mono hBr.size)
          have hBZw := hBwr.trans (hBz.mono hBwr.size)
          by_cases ht : z.th = y.th
          · have hr : res = false := HF.out (by rw [apartB, decide_eq_true ht]; rfl)
            subst hr
            clear HF HN2 hst
            generalize z.th = zt at *
            subst ht
            go_wp2
            go_ret
            exact ⟨rfl, hBZw.drew⟩
          · have htI : ((z.th : Int) == (y.th : Int)) = false := beq_false_of_ne (by omega)
            by_cases hkk : z.k = y.k
            · have hr : res = false := HF.out (by rw [apartB, decide_eq_true hkk, Bool.not_true, Bool.and_false])
              subst hr
              clear HF HN2 hst
              generalize z.k = zk at *
              subst hkk
              go_wp2
              go_ret
              exact ⟨rfl, hBZw.drew⟩
            · have hap : apartB z y = true := by rw [apartB, decide_eq_false ht, decide_eq_false hkk]; rfl
              have HN3 : Hid (∀ j, j ∈ p.take (i + 1) → apartB (aqOf la j) y = true) := HN2.out hap
              rw [decide_eq_false hkk] at hst
              clear HF HN2 hap
              go_wp2
              go_roundw
              case rel => exact ⟨i + 1, by omega, by go_num, HN3, hBZ.drew⟩
              case measure => (simp [intOf] <;> omega)
        · have il : ¬ (i : Int) < (p.length : Int) := by omega
          have hres : res = shareB [xm.k] y.hl := by
            rw [HR.out]
            have : (p.all fun i => apartB (aqOf la i) y) = true := by
              rw [List.all_eq_true]
              intro q hq
              refine HN.out q ?_
              rw [show i = p.length by omega, List.take_length]; exact hq
            rw [this]; rfl
          subst hres
          have hL2 := hLd wr f0R haR
          have r0 := pR 0 (by omega)
          have r1 := pR 1 (by omega)
          have r2 := pR 2 (by omega)
          have r3 := pR 3 (by omega)
          have r4 := pR 4 (by omega)
          clear hLd HR HA HPc pR
          go_wp2_with (first | (go_at_call 77; refine hL2.mono ?_; rintro e w3 ⟨rfl, hb3⟩))
          go_ret
          exact ⟨rfl, hBwr.trans (hb3.mono hBwr.size)⟩
end Go.Proofs.YtdfndcbakcmgiabDoor
