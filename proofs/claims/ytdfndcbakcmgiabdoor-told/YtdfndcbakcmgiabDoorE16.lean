import Derived.Test.YtdfndcbakcmgiabDoorE14
import Derived.Test.YtdfndcbakcmgiabDoorD1
namespace Go.Proofs.YtdfndcbakcmgiabDoor
open Go.RowKit
attribute [local go_sem ↓] loadS_fold storeS_fold zeroS_fold

theorem toLoop_inv (sch : ByteArray) : ∀ (n k : Nat) (W0 W : Wd), sch.size - k = n → W0.Inv → toLoop sch W0 k = some W → W.Inv ∧ W.prog = W0.prog := by
  intro n
  induction n with
  | zero =>
    intro k W0 W hn I h
    rw [toLoop, if_neg (by omega)] at h
    cases h; exact ⟨I, rfl⟩
  | succ n ih =>
    intro k W0 W hn I h
    rw [toLoop, if_pos (by omega)] at h
    split at h
    · rename_i hc
      obtain ⟨h1, h2⟩ := ih (k + 1) _ W (by omega) (moveT_inv I (by omega) hc.2.2.2) h
      exact ⟨h1, h2.trans (moveT_prog _ _)⟩
    · cases h

set_option maxRecDepth 100000 in
set_option maxHeartbeats 2000000 in
theorem resume_bad (s sch picks : ByteArray) (w : World) (a : Int) (h : a ≠ 0) (hf : ∀ w, Calls Tryd.prog 26 #[.string s, .string sch] w fun e w' => e = .returned (noneV a) ∧ Below w.heap.size w w') :
    Calls Tryd.prog 18 #[.string s, .string sch, .string picks] w fun e w' => e = .returned (.tuple #[.string ⟨#[]⟩, .int .i64 0, .int .i64 a]) ∧ Below w.heap.size w w' := by
  have ha : (a != 0) = true := by simpa using h
  have hF := hf w
  have hz : zeroM.cells = zeroS := zero_firstK
  rw [noneV, hz] at hF
  clear hf
  go_enter Tryd.func18, Tryd.ntmps18
  go_wp2_with (first | (go_at_call 26; refine hF.mono ?_; rintro e w1 ⟨rfl, hb⟩; have hst := storeS_run (s := zeroM) (heap_alloc2_new w1 (.cells #[.slice none 0 0] 60) (.cells zeroS 79)) rfl (firstK_ok _ _ (by omega)); rw [hz] at hst))
  go_ret3
  exact ⟨rfl, Below.setRow (hb.trans ((two_new (Below.refl _ _)).2.2.1.mono hb.size)) (by have := hb.size; omega) _⟩

/-- The two variables of a caller of follow. -/
theorem res_in {w w1 : World} {B gg cc : Nat} {LW : List (List Stp)} {sW : MS} (hb : Below w.heap.size w w1) (hP : ProgIn w1 B (.slice (some ⟨gg, 0, none⟩) LW.length cc) LW) (ok : sW.Ok) :
    (((w1.alloc (.cells #[.slice (some ⟨gg, 0, none⟩) LW.length cc] 60)).alloc (.cells zeroS 79)).setRow (w1.heap.size + 1) sW.cells).cell? ⟨w1.heap.size, 0, none⟩ = some (.slice (some ⟨gg, 0, none⟩) LW.length cc) ∧
    (loadS (.pointer (some ⟨w1.heap.size + 1, 0, none⟩))).run Tryd.prog (((w1.alloc (.cells #[.slice (some ⟨gg, 0, none⟩) LW.length cc] 60)).alloc (.cells zeroS 79)).setRow (w1.heap.size + 1) sW.cells) = .ok (.agg sW.cells) (((w1.alloc (.cells #[.slice (some ⟨gg, 0, none⟩) LW.length cc] 60)).alloc (.cells zeroS 79)).setRow (w1.heap.size + 1) sW.cells) ∧
    ProgIn (((w1.alloc (.cells #[.slice (some ⟨gg, 0, none⟩) LW.length cc] 60)).alloc (.cells zeroS 79)).setRow (w1.heap.size + 1) sW.cells) B (.slice (some ⟨gg, 0, none⟩) LW.length cc) LW ∧
    Below w.heap.size w (((w1.alloc (.cells #[.slice (some ⟨gg, 0, none⟩) LW.length cc] 60)).alloc (.cells zeroS 79)).setRow (w1.heap.size + 1) sW.cells) := by
  have hB : Below w1.heap.size w1 (((w1.alloc (.cells #[.slice (some ⟨gg, 0, none⟩) LW.length cc] 60)).alloc (.cells zeroS 79)).setRow (w1.heap.size + 1) sW.cells) := Below.setRow (two_new (Below.refl _ _)).2.2.1 (by omega) _
  refine ⟨?_, (StIn.setRow (heap_alloc2_new _ _ _) ok).loadS, hP.below hB, hb.trans (hB.mono hb.size)⟩
  rw [cell_setRow_other _ _ _ _ (show w1.heap.size ≠ w1.heap.size + 1 by omega)]
  exact cellB (heap_alloc2_old _ _ _) rfl

set_option maxRecDepth 100000 in
set_option maxHeartbeats 2000000 in
theorem resume_ok (s sch picks : ByteArray) (hsch : sch.size ≤ maxLen) (w : World) (h : (ckP s).1 = 0) (W : Wd) (hW : toLoop sch (beginW (thLoop s 0 0 [])) 0 = some W) :
    Calls Tryd.prog 18 #[.string s, .string sch, .string picks] w fun e w' => e = .returned (.tuple #[.string (digS (resumeL picks 61 W []).1), .int .i64 (resumeL picks 61 W []).2, .int .i64 0]) ∧ Below w.heap.size w w' := by
  have I0 := begin_inv s h
  obtain ⟨IW, hpg⟩ := toLoop_inv sch _ 0 _ W rfl I0 hW
  have hF := follow_ok s sch hsch w h W hW IW
  have hpl : progL (beginW (thLoop s 0 0 [])) = progL W := by rw [progL, progL, hpg]
  rw [hpl] at hF
  have hRun := fun V w' hp => Run_any V W IW picks w' w.heap.size hp
  have okW := msOf_ok IW.good
  clear hpl I0 h hW hpg
  generalize msOf W = sW at *
  generalize progL W = LW at *
  generalize resumeL picks 61 W [] = res at *
  go_enter Tryd.func18, Tryd.ntmps18
  go_wp2_with (first
    | (go_at_call 26; refine hF.mono ?_; rintro e w1 ⟨V, rfl, hb, hP⟩; obtain ⟨gg, cc, hVe, _⟩ := id hP; subst hVe; have hst := storeS_run (s := sW) (heap_alloc2_new w1 (.cells #[.slice (some ⟨gg, 0, none⟩) LW.length cc] 60) (.cells zeroS 79)) rfl okW; obtain ⟨kX, hlX, hPX, hbX⟩ := res_in (w := w) hb hP okW)
    | (go_at_call 27; refine (hRun _ _ hPX).mono ?_; rintro e w2 ⟨rfl, hb2⟩))
  go_ret3
  exact ⟨rfl, hbX.trans (hb2.mono hbX.size)⟩

/-- What Resume answers, of any text. -/
def resumeV (s sch picks : ByteArray) : Value :=
  if (ckP s).1 ≠ 0 then .tuple #[.string ⟨#[]⟩, .int .i64 0, .int .i64 (ckP s).1]
  else match toLoop sch (beginW (thLoop s 0 0 [])) 0 with
    | some W => .tuple #[.string (digS (resumeL picks 61 W []).1), .int .i64 (resumeL picks 61 W []).2, .int .i64 0]
    | none => .tuple #[.string ⟨#[]⟩, .int .i64 0, .int .i64 5]
theorem resume_any (s sch picks : ByteArray) (hsch : sch.size ≤ maxLen) (w : World) :
    Calls Tryd.prog 18 #[.string s, .string sch, .string picks] w fun e w' => e = .returned (resumeV s sch picks) ∧ Below w.heap.size w w' := by
  unfold resumeV
  by_cases h : (ckP s).1 ≠ 0
  · rw [if_pos h]
    exact resume_bad s sch picks w _ h (fun w => follow_err s sch w h)
  · rw [if_neg h]
    have h0 : (ckP s).1 = 0 := by omega
    cases hW : toLoop sch (beginW (thLoop s 0 0 [])) 0 with
    | none => exact resume_bad s sch picks w 5 (by decide) (fun w => follow_none s sch hsch w h0 hW)
    | some W => exact resume_ok s sch picks hsch w h0 W hW
theorem resumeV_form (s sch picks : ByteArray) : ∃ (a : ByteArray) (b c : Int), resumeV s sch picks = .tuple #[.string a, .int .i64 b, .int .i64 c] := by
  unfold resumeV
  split
  · exact ⟨_, _, _, rfl⟩
  · split
    · exact ⟨_, _, _, rfl⟩
    · exact ⟨_, _, _, rfl⟩
theorem run_any (s picks : ByteArray) (w : World) :
    Calls Tryd.prog 8 #[.string s, .string picks] w fun e w' => e = .returned (resumeV s ⟨#[]⟩ picks) ∧ Below w.heap.size w w' := by
  have hR := resume_any s ⟨#[]⟩ picks (by simp [ByteArray.size]) w
  obtain ⟨a, b, c, hV⟩ := resumeV_form s ⟨#[]⟩ picks
  rw [hV] at hR
  rw [hV]
  go_enter Tryd.func8, Tryd.ntmps8
  go_wp2_with (first | (go_at_call 18; refine hR.mono ?_; rintro e w1 ⟨rfl, hb⟩))
  go_ret3
  exact ⟨rfl, hb⟩
end Go.Proofs.YtdfndcbakcmgiabDoor
