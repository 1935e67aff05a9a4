import Derived.Test.YtfdbnilopfnifaaE14
import Derived.Test.YtfdbnilopfnifaaR2
namespace Go.Proofs.Ytfdbnilopfnifaa
open Go.RowKit
attribute [local go_sem ↓] loadS_fold storeS_fold zeroS_fold

theorem info1 : (Try.prog.info? 72).map (·.size) = some 1 := by
  have h := Try.sizeOf72 { heap := #[], tape := default, drawn := default, os := default, output := default }
  generalize Try.prog = P at *
  cases hq : P.info? 72 with
  | none => simp [sizeOf, typeInfo, hq] at h
  | some i => simp [sizeOf, typeInfo, hq] at h; simp [h]
theorem results_PS {fn : Func} (h : fn.results = #[.cell 4 72, .cell 5 95, .tmp 6]) (tmps : Array Value) (w : World) (g4 g5 : Nat) (u v : Value) (s : MS) (h4 : tmps.getD 4 undef = .pointer (some ⟨g4, 0, none⟩)) (h5 : tmps.getD 5 undef = .pointer (some ⟨g5, 0, none⟩)) (hv : tmps.getD 6 undef = v)
    (b4 : w.heap[g4]? = some (.cells #[u] 72 (0, 0))) (hs : StIn w g5 s) :
    (results fn tmps).run Try.prog w = .ok (.tuple #[.agg #[u], .agg s.cells, v]) w := by
  have hl := loadVar22 hs.blk (MS.cells_size hs.ok)
  have hl4 := run_loadVar_row (P := Try.prog) w g4 _ 72 #[u] _ _ b4 Try.underlying72 rfl info1
  have h4' : tmps[4]?.getD undef = .pointer (some ⟨g4, 0, none⟩) := by simpa using h4
  have h5' : tmps[5]?.getD undef = .pointer (some ⟨g5, 0, none⟩) := by simpa using h5
  have hv' : tmps[6]?.getD undef = v := by simpa using hv
  simp [results, h, h4', h5', hv', asAddr, hl, hl4]

def noneV (e : Int) : Value := .tuple #[.agg #[.slice none 0 0], .agg zeroM.cells, .int .i64 e]
abbrev twoV (w : World) : World := (w.alloc (.cells #[.slice none 0 0] 72)).alloc (.cells zeroS 95)

/-- What stands behind the reading. -/
structure FIn (w wc : World) (q : Nat) (V : Value) : Prop where
  b4 : wc.heap[w.heap.size]? = some (.cells #[.slice none 0 0] 72 (0, 0))
  b5 : wc.heap[w.heap.size + 1]? = some (.cells zeroS 95 (0, 0))
  k : wc.heap[q]? = some (.cells #[V] 72 (0, 0))
  hq : w.heap.size + 2 ≤ q
  hB : Below w.heap.size w wc

/-- The error's way out: two zero values are stored. -/
theorem out_none {w wc : World} {q : Nat} {V : Value} (F : FIn w wc q V) :
    wc.cell? ⟨w.heap.size, 0, none⟩ = some (.slice none 0 0) ∧ wc.frozen? ⟨w.heap.size, 0, none⟩ = false ∧
    (storeS (.pointer (some ⟨w.heap.size + 1, 0, none⟩)) (.agg zeroS)).run Try.prog (wc.setCell ⟨w.heap.size, 0, none⟩ (.slice none 0 0)) = .ok () ((wc.setCell ⟨w.heap.size, 0, none⟩ (.slice none 0 0)).setRow (w.heap.size + 1) zeroS) ∧
    ((wc.setCell ⟨w.heap.size, 0, none⟩ (.slice none 0 0)).setRow (w.heap.size + 1) zeroS).heap[w.heap.size]? = some (.cells #[.slice none 0 0] 72 (0, 0)) ∧
    StIn ((wc.setCell ⟨w.heap.size, 0, none⟩ (.slice none 0 0)).setRow (w.heap.size + 1) zeroS) (w.heap.size + 1) zeroM ∧
    Below w.heap.size w ((wc.setCell ⟨w.heap.size, 0, none⟩ (.slice none 0 0)).setRow (w.heap.size + 1) zeroS) := by
  have h5 : (wc.setCell ⟨w.heap.size, 0, none⟩ (.slice none 0 0)).heap[w.heap.size + 1]? = some (.cells zeroS 95 (0, 0)) := by
    rw [heap_setCell_other _ _ _ _ (by simp)]; exact F.b5
  have hst := storeS_run (s := zeroM) h5 rfl (firstK_ok _ _ (by omega))
  have hfi := StIn.setRow (s := zeroM) h5 (firstK_ok _ _ (by omega))
  have hz : zeroM.cells = zeroS := zero_firstK
  rw [hz] at hst hfi
  refine ⟨cellB F.b4 rfl, frozen_of_row _ _ _ _ _ F.b4, hst, ?_, hfi, ?_⟩
  · rw [setRow_other _ _ _ _ (by omega)]
    exact heap_setCell_same _ _ _ _ _ _ F.b4
  · exact Below.setRow (F.hB.setCell (Nat.le_refl _) _) (by omega) _

set_option maxRecDepth 100000 in
set_option maxHeartbeats 2000000 in
theorem follow_err (s sch : ByteArray) (w : World) (h : (ckP s).1 ≠ 0) :
    Calls Try.prog 53 #[.string s, .string sch] w fun e w' => e = .returned (noneV (ckP s).1) ∧ Below w.heap.size w w' := by
  have hR := Read_any s (twoV w)
  rw [read_eq s] at hR
  generalize (ckP s).1 = a at *
  generalize (ckP s).2 = b at *
  have ha : (a != 0) = true := by simpa using h
  have hs2 : (twoV w).heap.size = w.heap.size + 2 := by simp
  go_enter Try.func53, Try.ntmps53
  go_upto_region 1 with fail
  go_cut [7, 8, 9] (fun p x y wc => ∃ q V, p = .pointer (some ⟨q, 0, none⟩) ∧ x = .int .i64 a ∧ y = .int .i64 b ∧ FIn w wc q V)
  case first =>
    go_wp2_with (first | (go_at_call 45; refine hR.mono ?_; rintro e w1 ⟨a1, n1, c1, rfl, hb, _⟩; obtain ⟨b4, b5, hB, hs3⟩ := two_new hb))
    go_meet
    case rel =>
      exact ⟨_, _, rfl, rfl, rfl, by rw [heap_alloc_old _ _ (by omega)]; exact b4, by rw [heap_alloc_old _ _ (by omega)]; exact b5, heap_alloc_new _ _, hs3, hB.alloc hB.size _⟩
  case rest =>
    obtain ⟨q, V, rfl, rfl, rfl, F⟩ := hcut
    obtain ⟨e4, z4, hst, f4, f5, hBf⟩ := out_none F
    clear hR
    go_wp2
    exact bodyPost_ret (v := noneV a) (results_PS Try.results53 _ _ w.heap.size (w.heap.size + 1) _ _ zeroM rfl rfl rfl f4 f5) rfl ⟨rfl, hBf⟩

theorem FIn.below {w wc w' : World} {q : Nat} {V : Value} (F : FIn w wc q V) (hb : Below wc.heap.size wc w') : FIn w w' q V where
  b4 := (hb.block _ (Array.getElem?_eq_some_iff.1 F.b4).1).trans F.b4
  b5 := (hb.block _ (Array.getElem?_eq_some_iff.1 F.b5).1).trans F.b5
  k := (hb.block _ (Array.getElem?_eq_some_iff.1 F.k).1).trans F.k
  hq := F.hq
  hB := F.hB.trans (hb.mono F.hB.size)

theorem progL_begin (s : ByteArray) (h : (ckP s).1 = 0) : (readP s).1 = progL (beginW (thLoop s 0 0 [])) := by
  rw [readP_threads s (by rw [read_eq]; exact h)]
  simp [parse, progL, beginW, madeW, Function.comp_def]
theorem begin_first (s : ByteArray) (h : (ckP s).1 = 0) : firstM = msOf (beginW (thLoop s 0 0 [])) := by
  have I := begin_inv s h
  have hl : (beginW (thLoop s 0 0 [])).prog.length = (thLoop s 0 0 []).length := by simp [beginW, madeW]
  exact first_sim _ (thLoop_pos s _ 0 0 [] rfl) (by rw [← hl]; exact I.good.n5)

set_option maxRecDepth 100000 in
set_option maxHeartbeats 2000000 in
theorem follow_none (s sch : ByteArray) (hsch : sch.size ≤ maxLen) (w : World) (h : (ckP s).1 = 0) (hW : toLoop sch (beginW (thLoop s 0 0 [])) 0 = none) :
    Calls Try.prog 53 #[.string s, .string sch] w fun e w' => e = .returned (noneV 5) ∧ Below w.heap.size w w' := by
  have hR := Read_any s (twoV w)
  have I0 := begin_inv s h
  rw [progL_begin s h, read_eq s, h] at hR
  have hF : followM (progL (beginW (thLoop s 0 0 []))) sch firstM 0 = none := by
    rw [begin_first s h, follow_sim sch _ 0 _ rfl I0, hW]; rfl
  generalize beginW (thLoop s 0 0 []) = W0 at *
  generalize (ckP s).2 = b at *
  have hFo := fun V w' (hp : ProgIn w' w.heap.size V (progL W0)) => Follow_any V (progL W0) sch hsch w' w.heap.size hp (progL_po I0.good)
  rw [hF] at hFo
  have hs2 : (twoV w).heap.size = w.heap.size + 2 := by simp
  go_enter Try.func53, Try.ntmps53
  go_upto_region 1 with fail
  go_cut [7, 8, 9] (fun p x y wc => ∃ q V, p = .pointer (some ⟨q, 0, none⟩) ∧ x = .int .i64 0 ∧ y = .int .i64 b ∧ FIn w wc q V ∧ ProgIn wc w.heap.size V (progL W0))
  case first =>
    go_wp2_with (first | (go_at_call 45; refine hR.mono ?_; rintro e w1 ⟨a1, n1, c1, rfl, hb, hpp⟩; obtain ⟨b4, b5, hB, hs3⟩ := two_new hb; have hpp2 := (hpp rfl).mono (B' := w.heap.size) (by rw [hs2]; omega)))
    go_meet
    case rel =>
      exact ⟨_, _, rfl, rfl, rfl, ⟨by rw [heap_alloc_old _ _ (by omega)]; exact b4, by rw [heap_alloc_old _ _ (by omega)]; exact b5, heap_alloc_new _ _, hs3, hB.alloc hB.size _⟩, hpp2.alloc _⟩
  case rest =>
    obtain ⟨q, V, rfl, rfl, rfl, F, hP⟩ := hcut
    have kq : wc.cell? ⟨q, 0, none⟩ = some V := cellB F.k rfl
    have hF2 := hFo V wc hP
    rw [followV] at hF2
    clear hR hFo
    go_upto_region 5 with (first | (go_at_call 80; refine hF2.mono ?_; rintro e w2 ⟨rfl, hb2⟩; have hstN := storeS_run (s := zeroM) (heap_alloc_new w2 (.cells zeroS 95)) rfl (firstK_ok _ _ (by omega)); have hbN := Below.setRow (hb2.alloc hb2.size (.cells zeroS 95)) hb2.size zeroM.cells; obtain ⟨e4, z4, hst, f4, f5, hBf⟩ := out_none (F.below hbN)))
    go_wp2
    exact bodyPost_ret (v := noneV 5) (results_PS Try.results53 _ _ w.heap.size (w.heap.size + 1) _ _ zeroM rfl rfl rfl f4 f5) rfl ⟨rfl, hBf⟩

set_option maxRecDepth 100000 in
set_option maxHeartbeats 2000000 in
theorem follow_ok (s sch : ByteArray) (hsch : sch.size ≤ maxLen) (w : World) (h : (ckP s).1 = 0) (W : Wd) (hW : toLoop sch (beginW (thLoop s 0 0 [])) 0 = some W) (IW : W.Inv) :
    Calls Try.prog 53 #[.string s, .string sch] w fun e w' => ∃ V, e = .returned (.tuple #[.agg #[V], .agg (msOf W).cells, .int .i64 0]) ∧ Below w.heap.size w w' ∧ ProgIn w' w.heap.size V (progL (beginW (thLoop s 0 0 []))) := by
  have hR := Read_any s (twoV w)
  have I0 := begin_inv s h
  rw [progL_begin s h, read_eq s, h] at hR
  have hF : followM (progL (beginW (thLoop s 0 0 []))) sch firstM 0 = some (msOf W) := by
    rw [begin_first s h, follow_sim sch _ 0 _ rfl I0, hW]; rfl
  generalize beginW (thLoop s 0 0 []) = W0 at *
  generalize (ckP s).2 = b at *
  have hFo := fun V w' (hp : ProgIn w' (w.heap.size + 2) V (progL W0)) => Follow_any V (progL W0) sch hsch w' (w.heap.size + 2) hp (progL_po I0.good)
  rw [hF] at hFo
  have okW := msOf_ok IW.good
  generalize msOf W = sW at *
  have hs2 : (twoV w).heap.size = w.heap.size + 2 := by simp
  go_enter Try.func53, Try.ntmps53
  go_upto_region 1 with fail
  go_cut [7, 8, 9] (fun p x y wc => ∃ q V, p = .pointer (some ⟨q, 0, none⟩) ∧ x = .int .i64 0 ∧ y = .int .i64 b ∧ FIn w wc q V ∧ ProgIn wc (w.heap.size + 2) V (progL W0))
  case first =>
    go_wp2_with (first | (go_at_call 45; refine hR.mono ?_; rintro e w1 ⟨a1, n1, c1, rfl, hb, hpp⟩; obtain ⟨b4, b5, hB, hs3⟩ := two_new hb; have hpp2 := (hpp rfl).mono (B' := w.heap.size + 2) (by rw [hs2]; omega)))
    go_meet
    case rel =>
      exact ⟨_, _, rfl, rfl, rfl, ⟨by rw [heap_alloc_old _ _ (by omega)]; exact b4, by rw [heap_alloc_old _ _ (by omega)]; exact b5, heap_alloc_new _ _, hs3, hB.alloc hB.size _⟩, hpp2.alloc _⟩
  case rest =>
    obtain ⟨q, V, rfl, rfl, rfl, F, hP⟩ := hcut
    have kq : wc.cell? ⟨q, 0, none⟩ = some V := cellB F.k rfl
    have hF2 := hFo V wc hP
    rw [followV] at hF2
    clear hR hFo
    obtain ⟨gg, cc, hVe, _⟩ := id hP
    subst hVe
    go_upto_region 7 with (first | (go_at_call 80; refine hF2.mono ?_; rintro e w2 ⟨rfl, hb2⟩; have hstN := storeS_run (s := sW) (heap_alloc_new w2 (.cells zeroS 95)) rfl okW; have hbN := Below.setRow (hb2.alloc hb2.size (.cells zeroS 95)) hb2.size sW.cells))
    have F2 := F.below hbN
    have hPX := hP.below hbN
    have hX10 : StIn ((w2.alloc (.cells zeroS 95)).setRow w2.heap.size sW.cells) w2.heap.size sW := StIn.setRow (heap_alloc_new w2 _) okW
    generalize ((w2.alloc (.cells zeroS 95)).setRow w2.heap.size sW.cells) = X at *
    have hq2 := F.hq
    have hw2 : wc.heap.size ≤ w2.heap.size := hb2.size
    have hqw : q < wc.heap.size := (Array.getElem?_eq_some_iff.1 F.k).1
    have kX : X.cell? ⟨q, 0, none⟩ = some (.slice (some ⟨gg, 0, none⟩) (progL W0).length cc) := cellB F2.k rfl
    have e4 : X.cell? ⟨w.heap.size, 0, none⟩ = some (.slice none 0 0) := cellB F2.b4 rfl
    have z4 : X.frozen? ⟨w.heap.size, 0, none⟩ = false := frozen_of_row _ _ _ _ _ F2.b4
    have hl1 := hX10.drew.loadS
    have hs1 : StIn ((X.setCell ⟨w.heap.size, 0, none⟩ (.slice (some ⟨gg, 0, none⟩) (progL W0).length cc)).drew) w2.heap.size sW := ⟨by rw [heap_drew, heap_setCell_other _ _ _ _ (by simp; omega)]; exact hX10.blk, okW⟩
    have hl2 := hs1.loadS
    have b5 : (X.setCell ⟨w.heap.size, 0, none⟩ (.slice (some ⟨gg, 0, none⟩) (progL W0).length cc)).drew.heap[w.heap.size + 1]? = some (.cells zeroS 95 (0, 0)) := by
      rw [heap_drew, heap_setCell_other _ _ _ _ (by simp)]; exact F2.b5
    have hst := storeS_run (s := sW) b5 rfl okW
    have f5 := StIn.setRow b5 okW
    have f4 : ((X.setCell ⟨w.heap.size, 0, none⟩ (.slice (some ⟨gg, 0, none⟩) (progL W0).length cc)).drew.setRow (w.heap.size + 1) sW.cells).heap[w.heap.size]? = some (.cells #[.slice (some ⟨gg, 0, none⟩) (progL W0).length cc] 72 (0, 0)) := by
      rw [setRow_other _ _ _ _ (by omega)]
      exact heap_setCell_same X w.heap.size 0 _ _ _ F2.b4
    have hBf : Below w.heap.size w ((X.setCell ⟨w.heap.size, 0, none⟩ (.slice (some ⟨gg, 0, none⟩) (progL W0).length cc)).drew.setRow (w.heap.size + 1) sW.cells) := Below.setRow (F2.hB.setCell (Nat.le_refl _) _).drew (by omega) _
    have hPf : ProgIn ((X.setCell ⟨w.heap.size, 0, none⟩ (.slice (some ⟨gg, 0, none⟩) (progL W0).length cc)).drew.setRow (w.heap.size + 1) sW.cells) (w.heap.size + 2) (.slice (some ⟨gg, 0, none⟩) (progL W0).length cc) (progL W0) := hPX.kept (fun k hk _ => by rw [setRow_other _ _ _ _ (by omega), heap_drew, heap_setCell_other _ _ _ _ (by simp; omega)])
    clear hstN hF2
    go_region
    all_goals
      go_wp2
      exact bodyPost_ret (v := .tuple #[.agg #[.slice (some ⟨gg, 0, none⟩) (progL W0).length cc], .agg sW.cells, .int .i64 0]) (results_PS Try.results53 _ _ w.heap.size (w.heap.size + 1) _ _ sW rfl rfl rfl f4 f5) rfl ⟨_, rfl, hBf, hPf.mono (by omega)⟩
end Go.Proofs.Ytfdbnilopfnifaa
namespace Go.Proofs.Ytfdbnilopfnifaa
open Go.RowKit
attribute [local go_sem ↓] loadS_fold storeS_fold zeroS_fold

theorem toLoop_inv (sch : ByteArray) : ∀ (n k : Nat) (W0 W : Wd), sch.size - k = n → W0.Inv → toLoop sch W0 k = some W → W.Inv ∧ W.prog = W0.prog := by
  intro n
  induction n with
  | zero =>
    intro k W0 W hn I h
    rw [toLoop, if_neg (by omega)] at h
    cases h; exact ⟨I, rfl⟩
  | succ n ih =>
    intro k W0 W hn I h
    rw [toLoop, if_pos (by omega)] at h
    split at h
    · rename_i hc
      obtain ⟨h1, h2⟩ := ih (k + 1) _ W (by omega) (moveT_inv I (by omega) hc.2.2.2) h
      exact ⟨h1, h2.trans (moveT_prog _ _)⟩
    · cases h

set_option maxRecDepth 100000 in
set_option maxHeartbeats 2000000 in
theorem resume_bad (s sch picks : ByteArray) (w : World) (a : Int) (h : a ≠ 0) (hf : ∀ w, Calls Try.prog 53 #[.string s, .string sch] w fun e w' => e = .returned (noneV a) ∧ Below w.heap.size w w') :
    Calls Try.prog 18 #[.string s, .string sch, .string picks] w fun e w' => e = .returned (.tuple #[.string ⟨#[]⟩, .int .i64 0, .int .i64 a]) ∧ Below w.heap.size w w' := by
  have ha : (a != 0) = true := by simpa using h
  have hF := hf w
  have hz : zeroM.cells = zeroS := zero_firstK
  rw [noneV, hz] at hF
  clear hf
  go_enter Try.func18, Try.ntmps18
  go_wp2_with (first | (go_at_call 53; refine hF.mono ?_; rintro e w1 ⟨rfl, hb⟩; have hst := storeS_run (s := zeroM) (heap_alloc2_new w1 (.cells #[.slice none 0 0] 72) (.cells zeroS 95)) rfl (firstK_ok _ _ (by omega)); rw [hz] at hst))
  go_ret3
  exact ⟨rfl, Below.setRow (hb.trans ((two_new (Below.refl _ _)).2.2.1.mono hb.size)) (by have := hb.size; omega) _⟩

/-- The two variables of a caller of follow. -/
theorem res_in {w w1 : World} {B gg cc : Nat} {LW : List (List Stp)} {sW : MS} (hb : Below w.heap.size w w1) (hP : ProgIn w1 B (.slice (some ⟨gg, 0, none⟩) LW.length cc) LW) (ok : sW.Ok) :
    (((w1.alloc (.cells #[.slice (some ⟨gg, 0, none⟩) LW.length cc] 72)).alloc (.cells zeroS 95)).setRow (w1.heap.size + 1) sW.cells).cell? ⟨w1.heap.size, 0, none⟩ = some (.slice (some ⟨gg, 0, none⟩) LW.length cc) ∧
    (loadS (.pointer (some ⟨w1.heap.size + 1, 0, none⟩))).run Try.prog (((w1.alloc (.cells #[.slice (some ⟨gg, 0, none⟩) LW.length cc] 72)).alloc (.cells zeroS 95)).setRow (w1.heap.size + 1) sW.cells) = .ok (.agg sW.cells) (((w1.alloc (.cells #[.slice (some ⟨gg, 0, none⟩) LW.length cc] 72)).alloc (.cells zeroS 95)).setRow (w1.heap.size + 1) sW.cells) ∧
    ProgIn (((w1.alloc (.cells #[.slice (some ⟨gg, 0, none⟩) LW.length cc] 72)).alloc (.cells zeroS 95)).setRow (w1.heap.size + 1) sW.cells) B (.slice (some ⟨gg, 0, none⟩) LW.length cc) LW ∧
    Below w.heap.size w (((w1.alloc (.cells #[.slice (some ⟨gg, 0, none⟩) LW.length cc] 72)).alloc (.cells zeroS 95)).setRow (w1.heap.size + 1) sW.cells) := by
  have hB : Below w1.heap.size w1 (((w1.alloc (.cells #[.slice (some ⟨gg, 0, none⟩) LW.length cc] 72)).alloc (.cells zeroS 95)).setRow (w1.heap.size + 1) sW.cells) := Below.setRow (two_new (Below.refl _ _)).2.2.1 (by omega) _
  refine ⟨?_, (StIn.setRow (heap_alloc2_new _ _ _) ok).loadS, hP.below hB, hb.trans (hB.mono hb.size)⟩
  rw [cell_setRow_other _ _ _ _ (show w1.heap.size ≠ w1.heap.size + 1 by omega)]
  exact cellB (heap_alloc2_old _ _ _) rfl

set_option maxRecDepth 100000 in
set_option maxHeartbeats 2000000 in
theorem resume_ok (s sch picks : ByteArray) (hsch : sch.size ≤ maxLen) (w : World) (h : (ckP s).1 = 0) (W : Wd) (hW : toLoop sch (beginW (thLoop s 0 0 [])) 0 = some W) :
    Calls Try.prog 18 #[.string s, .string sch, .string picks] w fun e w' => e = .returned (.tuple #[.string (digS (resumeL picks 61 W []).1), .int .i64 (resumeL picks 61 W []).2, .int .i64 0]) ∧ Below w.heap.size w w' := by
  have I0 := begin_inv s h
  obtain ⟨IW, hpg⟩ := toLoop_inv sch _ 0 _ W rfl I0 hW
  have hF := follow_ok s sch hsch w h W hW IW
  have hpl : progL (beginW (thLoop s 0 0 [])) = progL W := by rw [progL, progL, hpg]
  rw [hpl] at hF
  have hRun := fun V w' hp => Run_any V W IW picks w' w.heap.size hp
  have okW := msOf_ok IW.good
  clear hpl I0 h hW hpg
  generalize msOf W = sW at *
  generalize progL W = LW at *
  generalize resumeL picks 61 W [] = res at *
  go_enter Try.func18, Try.ntmps18
  go_wp2_with (first
    | (go_at_call 53; refine hF.mono ?_; rintro e w1 ⟨V, rfl, hb, hP⟩; obtain ⟨gg, cc, hVe, _⟩ := id hP; subst hVe; have hst := storeS_run (s := sW) (heap_alloc2_new w1 (.cells #[.slice (some ⟨gg, 0, none⟩) LW.length cc] 72) (.cells zeroS 95)) rfl okW; obtain ⟨kX, hlX, hPX, hbX⟩ := res_in (w := w) hb hP okW)
    | (go_at_call 54; refine (hRun _ _ hPX).mono ?_; rintro e w2 ⟨rfl, hb2⟩))
  go_ret3
  exact ⟨rfl, hbX.trans (hb2.mono hbX.size)⟩

/-- What Resume answers, of any text. -/
def resumeV (s sch picks : ByteArray) : Value :=
  if (ckP s).1 ≠ 0 then .tuple #[.string ⟨#[]⟩, .int .i64 0, .int .i64 (ckP s).1]
  else match toLoop sch (beginW (thLoop s 0 0 [])) 0 with
    | some W => .tuple #[.string (digS (resumeL picks 61 W []).1), .int .i64 (resumeL picks 61 W []).2, .int .i64 0]
    | none => .tuple #[.string ⟨#[]⟩, .int .i64 0, .int .i64 5]
theorem resume_any (s sch picks : ByteArray) (hsch : sch.size ≤ maxLen) (w : World) :
    Calls Try.prog 18 #[.string s, .string sch, .string picks] w fun e w' => e = .returned (resumeV s sch picks) ∧ Below w.heap.size w w' := by
  unfold resumeV
  by_cases h : (ckP s).1 ≠ 0
  · rw [if_pos h]
    exact resume_bad s sch picks w _ h (fun w => follow_err s sch w h)
  · rw [if_neg h]
    have h0 : (ckP s).1 = 0 := by omega
    cases hW : toLoop sch (beginW (thLoop s 0 0 [])) 0 with
    | none => exact resume_bad s sch picks w 5 (by decide) (fun w => follow_none s sch hsch w h0 hW)
    | some W => exact resume_ok s sch picks hsch w h0 W hW
theorem refResume_any (s sch picks : ByteArray) (hsch : sch.size ≤ maxLen) (hpk : picks.size ≤ maxLen) (w : World) :
    Calls Try.prog 17 #[.string s, .string sch, .string picks] w fun e w' => e = .returned (resumeV s sch picks) ∧ Below w.heap.size w w' := by
  unfold resumeV
  by_cases h : (ckP s).1 ≠ 0
  · rw [if_pos h]
    exact refResume_err s sch picks w h
  · rw [if_neg h]
    have h0 : (ckP s).1 = 0 := by omega
    have hs := (ckP_zero s h0).1
    cases hW : toLoop sch (beginW (thLoop s 0 0 [])) 0 with
    | none => exact refResume_none s sch picks w h0 hs hsch (begin_inv s h0) hW
    | some W => exact refResume_ok s sch picks w h0 hs hsch hpk (begin_inv s h0) W hW
theorem resumeV_form (s sch picks : ByteArray) : ∃ (a : ByteArray) (b c : Int), resumeV s sch picks = .tuple #[.string a, .int .i64 b, .int .i64 c] := by
  unfold resumeV
  split
  · exact ⟨_, _, _, rfl⟩
  · split
    · exact ⟨_, _, _, rfl⟩
    · exact ⟨_, _, _, rfl⟩
theorem run_any (s picks : ByteArray) (w : World) :
    Calls Try.prog 16 #[.string s, .string picks] w fun e w' => e = .returned (resumeV s ⟨#[]⟩ picks) ∧ Below w.heap.size w w' := by
  have hR := resume_any s ⟨#[]⟩ picks (by simp [ByteArray.size]) w
  obtain ⟨a, b, c, hV⟩ := resumeV_form s ⟨#[]⟩ picks
  rw [hV] at hR
  rw [hV]
  go_enter Try.func16, Try.ntmps16
  go_wp2_with (first | (go_at_call 18; refine hR.mono ?_; rintro e w1 ⟨rfl, hb⟩))
  go_ret3
  exact ⟨rfl, hb⟩
end Go.Proofs.Ytfdbnilopfnifaa
