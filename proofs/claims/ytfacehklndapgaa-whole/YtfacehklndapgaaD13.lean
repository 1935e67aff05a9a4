import Derived.Test.YtfacehklndapgaaD12
namespace Go.Proofs.Ytfacehklndapgaa
open Go.RowKit

theorem refReplay_err (s sch : ByteArray) (w : World) (h : (ckP s).1 ≠ 0) :
    Calls Try.prog 19 #[.string s, .string sch] w fun e w' => e = .returned (.tuple #[.agg #[.slice none 0 0, .string ⟨#[]⟩], .int .i64 (ckP s).1]) ∧ Below w.heap.size w w' := by
  have hwd := fun w => world_err s sch w h
  generalize (ckP s).1 = a at *
  have ha : (a != 0) = true := by simpa using h
  go_enter Try.func19, Try.ntmps19
  go_wp2_with (go_at_call 45; refine (hwd _).mono ?_; rintro e w1 ⟨rfl, hb⟩; obtain ⟨hc, hf, hz, hB⟩ := below_new hb; have c0 : w1.cell? ⟨w.heap.size, 0, none⟩ = some (.slice none 0 0) := hc 0 _ rfl; have c1 : w1.cell? ⟨w.heap.size, 1, none⟩ = some (.string ⟨#[]⟩) := hc 1 _ rfl; clear hc hb)
  exact bodyPost_ret (v := .tuple #[.agg #[.slice none 0 0, .string ⟨#[]⟩], .int .i64 a]) (by simp [results, Try.results19, go_sem, c0, c1]) rfl ⟨rfl, (hB.setCell (p := ⟨w.heap.size, 0, none⟩) (Nat.le_refl _) _).setCell (p := ⟨w.heap.size, 1, none⟩) (Nat.le_refl _) _⟩

theorem refReplay_none (s sch : ByteArray) (w : World) (h : (ckP s).1 = 0) (hs : s.size ≤ 160) (hsch : sch.size ≤ maxLen) (I0 : (beginW (thLoop s 0 0 [])).Inv) (hW : toLoop sch (beginW (thLoop s 0 0 [])) 0 = none) :
    Calls Try.prog 19 #[.string s, .string sch] w fun e w' => e = .returned (.tuple #[.agg #[.slice none 0 0, .string ⟨#[]⟩], .int .i64 5]) ∧ Below w.heap.size w w' := by
  have hwd := fun w => world_none s sch w h hs hsch I0 hW
  go_enter Try.func19, Try.ntmps19
  go_wp2_with (go_at_call 45; refine (hwd _).mono ?_; rintro e w1 ⟨rfl, hb⟩; obtain ⟨hc, hf, hz, hB⟩ := below_new hb; have c0 : w1.cell? ⟨w.heap.size, 0, none⟩ = some (.slice none 0 0) := hc 0 _ rfl; have c1 : w1.cell? ⟨w.heap.size, 1, none⟩ = some (.string ⟨#[]⟩) := hc 1 _ rfl; clear hc hb)
  exact bodyPost_ret (v := .tuple #[.agg #[.slice none 0 0, .string ⟨#[]⟩], .int .i64 5]) (by simp [results, Try.results19, go_sem, c0, c1]) rfl ⟨rfl, (hB.setCell (p := ⟨w.heap.size, 0, none⟩) (Nat.le_refl _) _).setCell (p := ⟨w.heap.size, 1, none⟩) (Nat.le_refl _) _⟩

set_option maxHeartbeats 1000000 in
theorem refReplay_ok (s sch : ByteArray) (w : World) (h : (ckP s).1 = 0) (hs : s.size ≤ 160) (hsch : sch.size ≤ maxLen) (I0 : (beginW (thLoop s 0 0 [])).Inv) (W : Wd) (hW : toLoop sch (beginW (thLoop s 0 0 [])) 0 = some W) :
    Calls Try.prog 19 #[.string s, .string sch] w fun e w' => ∃ g cap, e = .returned (.tuple #[.agg #[.slice (some ⟨g, 0, none⟩) W.prog.length cap, .string (flagsLoop W.set 0 ⟨#[]⟩)], .int .i64 0]) ∧ Below w.heap.size w w' ∧
      w'.ownsRow (w.heap.size + 1) 56 4 (.slice (some ⟨g, 0, none⟩) W.prog.length cap) W.prog.length ((thsOf W W.prog.length).flatMap thCells) := by
  have hwd := fun w => world_ok s sch w h hs hsch I0 W hW
  go_enter Try.func19, Try.ntmps19
  go_wp2_with (go_at_call 45; refine (hwd _).mono ?_; rintro e w1 ⟨p, rfl, hb, hR, I⟩; obtain ⟨hc, hf, hz, hB⟩ := below_new hb; have c0 : w1.cell? ⟨w.heap.size, 0, none⟩ = some (.slice none 0 0) := hc 0 _ rfl; have c1 : w1.cell? ⟨w.heap.size, 1, none⟩ = some (.string ⟨#[]⟩) := hc 1 _ rfl; clear hc hb)
  obtain ⟨_, _, _, _, _, _, _, _, _, _, _, _, hWi⟩ := hR.wIn I.good.ok
  have hv := view_any p W w1 hWi I.good
  have hnp := I.good.ok.np
  clear hwd hR hWi
  refine hv.mono ?_
  rintro e w2 ⟨vT, rfl, hb2, ho2⟩
  have d0 := cell_later hb2 c0
  have d1 := cell_later hb2 c1
  have z0 := frozen_later hb2 c0 (hf 0)
  have z1 := frozen_later hb2 c1 (hf 1)
  obtain ⟨g, cap, hvv, hBg, _⟩ := ownsRow_form ho2 hnp
  subst hvv
  go_wp2
  refine bodyPost_ret (v := .tuple #[.agg #[.slice (some ⟨g, 0, none⟩) W.prog.length cap, .string (flagsLoop W.set 0 ⟨#[]⟩)], .int .i64 0]) (by simp [results, Try.results19, go_sem, d0, d1]) rfl ⟨g, cap, rfl, ?_, ?_⟩
  · exact ((hB.trans (hb2.mono hB.size)).setCell (p := ⟨w.heap.size, 0, none⟩) (Nat.le_refl _) _).setCell (p := ⟨w.heap.size, 1, none⟩) (Nat.le_refl _) _
  · have h1 : w2.ownsRow (w.heap.size + 1) 56 4 (.slice (some ⟨g, 0, none⟩) W.prog.length cap) W.prog.length ((thsOf W W.prog.length).flatMap thCells) := by
      obtain ⟨k1, k2⟩ := ho2
      refine ⟨k1, ?_⟩
      rcases k2 with k2 | ⟨g', cap', cur, a, b, c⟩
      · exact .inl k2
      · exact .inr ⟨g', cap', cur, a, by omega, c⟩
    exact ownsRow_setCell_below (ownsRow_setCell_below h1 (a := ⟨w.heap.size, 0, none⟩) (by simp) _) (a := ⟨w.heap.size, 1, none⟩) (by simp) _
end Go.Proofs.Ytfacehklndapgaa
