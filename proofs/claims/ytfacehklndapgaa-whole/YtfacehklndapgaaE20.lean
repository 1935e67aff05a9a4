import Derived.Test.YtfacehklndapgaaE19
import Derived.Test.YtfacehklndapgaaE16
import Derived.Test.YtfacehklndapgaaD13
namespace Go.Proofs.Ytfacehklndapgaa
open Go.RowKit
attribute [local go_sem ↓] loadS_fold storeS_fold zeroS_fold

abbrev vw (w : World) : World := w.alloc (.cells #[.slice none 0 0, .string ⟨#[]⟩] 32)
def badV (a : Int) : Value := .tuple #[.agg #[.slice none 0 0, .string ⟨#[]⟩], .int .i64 a]

set_option maxRecDepth 100000 in
set_option maxHeartbeats 2000000 in
theorem replay_bad (s sch : ByteArray) (w : World) (a : Int) (h : a ≠ 0) (hf : ∀ w, Calls Try.prog 49 #[.string s, .string sch] w fun e w' => e = .returned (noneV a) ∧ Below w.heap.size w w') :
    Calls Try.prog 18 #[.string s, .string sch] w fun e w' => e = .returned (badV a) ∧ Below w.heap.size w w' := by
  have ha : (a != 0) = true := by simpa using h
  have hF := hf (vw w)
  have hz : zeroM.cells = zeroS := zero_firstK
  rw [noneV, hz] at hF
  clear hf
  go_enter Try.func18, Try.ntmps18
  go_upto_region 1 with fail
  go_cut [6, 7, 8] (fun x y z wc => z = .int .i64 a ∧ wc.heap[w.heap.size]? = some (.cells #[.slice none 0 0, .string ⟨#[]⟩] 32 (0, 0)) ∧ Below w.heap.size w wc)
  case first =>
    go_wp2_with (first | (go_at_call 49; refine hF.mono ?_; rintro e w1 ⟨rfl, hb⟩; have hst := storeS_run (s := zeroM) (heap_alloc2_new w1 (.cells #[.slice none 0 0] 69) (.cells zeroS 92)) rfl (firstK_ok _ _ (by omega)); rw [hz] at hst))
    go_meet
    case rel =>
      have hX : Below w1.heap.size w1 (((w1.alloc (.cells #[.slice none 0 0] 69)).alloc (.cells zeroS 92)).setRow (w1.heap.size + 1) zeroS) := Below.setRow (two_new (Below.refl _ _)).2.2.1 (by omega) _
      have hb' := hb.trans (hX.mono hb.size)
      refine ⟨rfl, (hb'.block w.heap.size (by simp)).trans (heap_alloc_new _ _), ((Below.refl w.heap.size w).alloc (Nat.le_refl _) _).trans (hb'.mono (by simp))⟩
  case rest =>
    obtain ⟨rfl, b4, hB⟩ := hcut
    have q0 : wc.cell? ⟨w.heap.size, 0, none⟩ = some (.slice none 0 0) := cellB b4 rfl
    have q1 : wc.cell? ⟨w.heap.size, 1, none⟩ = some (.string ⟨#[]⟩) := cellB b4 rfl
    have z0 := frozen_of_row _ _ 0 _ _ b4
    have z1 := frozen_of_row _ _ 1 _ _ b4
    clear hF
    go_wp2
    exact bodyPost_ret (v := badV a) (by simp [results, Try.results18, go_sem, badV, q0, q1]) rfl ⟨rfl, (hB.setCell (p := ⟨w.heap.size, 0, none⟩) (Nat.le_refl _) _).setCell (p := ⟨w.heap.size, 1, none⟩) (Nat.le_refl _) _⟩

set_option maxRecDepth 100000 in
set_option maxHeartbeats 2000000 in
theorem replay_ok (s sch : ByteArray) (hsch : sch.size ≤ maxLen) (w : World) (h : (ckP s).1 = 0) (W : Wd) (hW : toLoop sch (beginW (thLoop s 0 0 [])) 0 = some W) :
    Calls Try.prog 18 #[.string s, .string sch] w fun e w' => ∃ g cap, e = .returned (.tuple #[.agg #[.slice (some ⟨g, 0, none⟩) W.prog.length cap, .string (flagsLoop W.set 0 ⟨#[]⟩)], .int .i64 0]) ∧ Below w.heap.size w w' ∧
      w'.ownsRow (w.heap.size + 1) 56 4 (.slice (some ⟨g, 0, none⟩) W.prog.length cap) W.prog.length ((thsOf W W.prog.length).flatMap thCells) := by
  have I0 := begin_inv s h
  obtain ⟨IW, hpg⟩ := toLoop_inv sch _ 0 _ W rfl I0 hW
  have hF := follow_ok s sch hsch (vw w) h W hW IW
  have hpl : progL (beginW (thLoop s 0 0 [])) = progL W := by rw [progL, progL, hpg]
  rw [hpl] at hF
  have hVw := fun V w' hp => View_any V W IW.good w' (vw w).heap.size hp
  have okW := msOf_ok IW.good
  clear hpl I0 h hW hpg
  generalize flagsLoop W.set 0 ⟨#[]⟩ = fl at *
  generalize msOf W = sW at *
  generalize progL W = LW at *
  go_enter Try.func18, Try.ntmps18
  go_wp2_with (first
    | (go_at_call 49; refine hF.mono ?_; rintro e w1 ⟨V, rfl, hb, hP⟩; obtain ⟨gg, cc, hVe, _⟩ := id hP; subst hVe; have hst := storeS_run (s := sW) (heap_alloc2_new w1 (.cells #[.slice (some ⟨gg, 0, none⟩) LW.length cc] 69) (.cells zeroS 92)) rfl okW; obtain ⟨kX, hlX, hPX, hbX⟩ := res_in (w := vw w) hb hP okW)
    | (go_at_call 51; refine (hVw _ _ hPX).mono ?_; rintro e w2 ⟨g, cap, rfl, hb2, ho2⟩; have hbY := hbX.trans (hb2.mono hbX.size); have b4 := (hbY.block w.heap.size (by simp)).trans (heap_alloc_new w _); have q0 : w2.cell? ⟨w.heap.size, 0, none⟩ = some (.slice none 0 0) := cellB b4 rfl; have q1 : w2.cell? ⟨w.heap.size, 1, none⟩ = some (.string ⟨#[]⟩) := cellB b4 rfl; have z0 := frozen_of_row _ _ 0 _ _ b4; have z1 := frozen_of_row _ _ 1 _ _ b4))
  have hBw : Below w.heap.size w w2 := ((Below.refl w.heap.size w).alloc (Nat.le_refl _) _).trans (hbY.mono (by simp))
  have hszX := hbX.size
  have hvs : (vw w).heap.size = w.heap.size + 1 := by simp
  have ho3 : w2.ownsRow (w.heap.size + 1) 56 4 (.slice (some ⟨g, 0, none⟩) W.prog.length cap) W.prog.length ((thsOf W W.prog.length).flatMap thCells) := ownsRow_mono ho2 (by omega)
  refine bodyPost_ret (v := .tuple #[.agg #[.slice (some ⟨g, 0, none⟩) W.prog.length cap, .string fl], .int .i64 0]) (by simp [results, Try.results18, go_sem, q0, q1]) rfl ⟨g, cap, rfl, ?_, ?_⟩
  · exact (hBw.setCell (p := ⟨w.heap.size, 0, none⟩) (Nat.le_refl _) _).setCell (p := ⟨w.heap.size, 1, none⟩) (Nat.le_refl _) _
  · exact ownsRow_setCell_below (ownsRow_setCell_below ho3 (a := ⟨w.heap.size, 0, none⟩) (by simp) _) (a := ⟨w.heap.size, 1, none⟩) (by simp) _
end Go.Proofs.Ytfacehklndapgaa
