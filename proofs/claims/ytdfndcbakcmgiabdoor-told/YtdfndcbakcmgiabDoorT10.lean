import Derived.Test.YtdfndcbakcmgiabDoorT5
namespace Go.Proofs.YtdfndcbakcmgiabDoor
open Go.RowKit

def nilTr : Value := .agg #[.slice none 0 0, .slice none 0 0]
set_option maxRecDepth 100000 in
set_option maxHeartbeats 2000000 in
theorem traceOf_err (s sch : ByteArray) (w : World) (h : (ckP s).1 ≠ 0) :
    Calls Tryd.prog 19 #[.string s, .string sch] w fun e w' => e = .returned (.tuple #[nilTr, .int .i64 (ckP s).1]) ∧ Below w.heap.size w w' := by
  have hR := Read_any s (w.alloc (.cells #[.slice none 0 0, .slice none 0 0] 52))
  rw [read_eq s] at hR
  generalize (ckP s).1 = a at *
  generalize (ckP s).2 = b at *
  have ha : (a != 0) = true := by simpa using h
  go_enter Tryd.func19, Tryd.ntmps19
  go_wp2_with (first | (go_at_call 22; refine hR.mono ?_; rintro e w1 ⟨a1, n1, c1, rfl, hb, _⟩; obtain ⟨hc, hz, hlt, hB⟩ := below_new hb; have q0 : w1.cell? ⟨w.heap.size, 0, none⟩ = some (.slice none 0 0) := hc 0 _ rfl; have q1 : w1.cell? ⟨w.heap.size, 1, none⟩ = some (.slice none 0 0) := hc 1 _ rfl; have z0 := hz 0; have z1 := hz 1; clear hc hz))
  exact bodyPost_ret (v := .tuple #[nilTr, .int .i64 a]) (by simp [results, Tryd.results19, go_sem, q0, q1, nilTr, hlt]) rfl ⟨rfl, ((hB.setCell (p := ⟨w.heap.size, 0, none⟩) (by simp) _).setCell (p := ⟨w.heap.size, 1, none⟩) (by simp) _).alloc (by simpa using hB.size) _⟩

theorem begin_log (ths : List ByteArray) : (beginW ths).log = [] := by simp [beginW, madeW]
set_option maxRecDepth 100000 in
set_option maxHeartbeats 2000000 in
theorem traceOf_none (s sch : ByteArray) (hsch : sch.size ≤ maxLen) (w : World) (h : (ckP s).1 = 0) (hW : toLoop sch (beginW (thLoop s 0 0 [])) 0 = none) :
    Calls Tryd.prog 19 #[.string s, .string sch] w fun e w' => e = .returned (.tuple #[nilTr, .int .i64 5]) ∧ Below w.heap.size w w' := by
  have hR := Read_any s (w.alloc (.cells #[.slice none 0 0, .slice none 0 0] 52))
  have I0 := begin_inv s h
  have hF0 := begin_first s h
  have hl0 := begin_log (thLoop s 0 0 [])
  rw [progL_begin s h, read_eq s, h] at hR
  generalize beginW (thLoop s 0 0 []) = W0 at *
  generalize (ckP s).2 = b at *
  have hFo := fun V w' (hp : ProgIn w' (w.heap.size + 1) V (progL W0)) => FollowT_any V W0 I0 hl0 hF0 sch hsch w' (w.heap.size + 1) hp
  rw [hW] at hFo
  simp only [FolP] at hFo
  have hs1 : (w.alloc (.cells #[.slice none 0 0, .slice none 0 0] 52)).heap.size = w.heap.size + 1 := by simp
  clear hF0 hl0 hW
  go_enter Tryd.func19, Tryd.ntmps19
  go_wp2_with (first
    | (go_at_call 22; refine hR.mono ?_; rintro e w1 ⟨a1, n1, c1, rfl, hb, hpp⟩; obtain ⟨hc, hz, hlt, hB⟩ := below_new hb; have q0 : w1.cell? ⟨w.heap.size, 0, none⟩ = some (.slice none 0 0) := hc 0 _ rfl; have q1 : w1.cell? ⟨w.heap.size, 1, none⟩ = some (.slice none 0 0) := hc 1 _ rfl; have z0 := hz 0; have z1 := hz 1; clear hc hz; have HPP : Hid (ProgIn (w1.alloc (.cells #[.slice a1 n1 c1] 60)) (w.heap.size + 1) (.slice a1 n1 c1) (progL W0)) := (by rw [← hs1]; exact (hpp rfl).alloc _); clear hpp)
    | (go_at_call 28; refine (hFo _ _ HPP.out).mono ?_; rintro e w2 ⟨rfl, hb2⟩; obtain ⟨_, _, _, hB2⟩ := below_new hb2; have q0' := cell_later hB2 q0; have q1' := cell_later hB2 q1; have z0' := frozen_later hB2 q0 z0; have z1' := frozen_later hB2 q1 z1; have hlt2 := Nat.lt_of_lt_of_le hlt hB2.size; have hBw := hB.trans (hB2.mono hB.size)))
  exact bodyPost_ret (v := .tuple #[nilTr, .int .i64 5]) (by simp [results, Tryd.results19, go_sem, q0', q1', nilTr, hlt2]) rfl ⟨rfl, ((hBw.setCell (p := ⟨w.heap.size, 0, none⟩) (by simp) _).setCell (p := ⟨w.heap.size, 1, none⟩) (by simp) _).alloc (by simpa using hBw.size) _⟩

set_option maxRecDepth 100000 in
set_option maxHeartbeats 2000000 in
theorem traceOf_ok (s sch : ByteArray) (hsch : sch.size ≤ maxLen) (w : World) (h : (ckP s).1 = 0) (W : Wd) (hW : toLoop sch (beginW (thLoop s 0 0 [])) 0 = some W) :
    Calls Tryd.prog 19 #[.string s, .string sch] w fun e w' => ∃ g c g' c', e = .returned (.tuple #[.agg #[.slice (some ⟨g, 0, none⟩) W.log.length c, .slice (some ⟨g', 0, none⟩) (wantsE W W.prog.length).length c'], .int .i64 0]) ∧ MvsAt w' g (W.log.map mvE) ∧ MvsAt w' g' ((wantsE W W.prog.length).map mvE) ∧ Below w.heap.size w w' ∧ w.heap.size < g ∧ w.heap.size < g' := by
  have hR := Read_any s (w.alloc (.cells #[.slice none 0 0, .slice none 0 0] 52))
  have I0 := begin_inv s h
  have hF0 := begin_first s h
  have hl0 := begin_log (thLoop s 0 0 [])
  rw [progL_begin s h, read_eq s, h] at hR
  generalize beginW (thLoop s 0 0 []) = W0 at *
  generalize (ckP s).2 = b at *
  have hFo := fun V w' (hp : ProgIn w' (w.heap.size + 1) V (progL W0)) => FollowT_any V W0 I0 hl0 hF0 sch hsch w' (w.heap.size + 1) hp
  rw [hW] at hFo
  simp only [FolP] at hFo
  have hs1 : (w.alloc (.cells #[.slice none 0 0, .slice none 0 0] 52)).heap.size = w.heap.size + 1 := by simp
  clear hF0 hl0 hW
  go_enter Tryd.func19, Tryd.ntmps19
  go_wp2_with (first
    | (go_at_call 22; refine hR.mono ?_; rintro e w1 ⟨a1, n1, c1, rfl, hb, hpp⟩; obtain ⟨hc, hz, hlt, hB⟩ := below_new hb; have q0 : w1.cell? ⟨w.heap.size, 0, none⟩ = some (.slice none 0 0) := hc 0 _ rfl; have q1 : w1.cell? ⟨w.heap.size, 1, none⟩ = some (.slice none 0 0) := hc 1 _ rfl; have z0 := hz 0; have z1 := hz 1; clear hc hz; have HPP : Hid (ProgIn (w1.alloc (.cells #[.slice a1 n1 c1] 60)) (w.heap.size + 1) (.slice a1 n1 c1) (progL W0)) := (by rw [← hs1]; exact (hpp rfl).alloc _); clear hpp)
    | (go_at_call 28; refine (hFo _ _ HPP.out).mono ?_; rintro e w2 ⟨⟨g, c, g', c', rfl, hm, hm', hg, hg'⟩, hb2⟩; obtain ⟨_, _, _, hB2⟩ := below_new hb2; have q0' := cell_later hB2 q0; have q1' := cell_later hB2 q1; have z0' := frozen_later hB2 q0 z0; have z1' := frozen_later hB2 q1 z1; have hlt2 := Nat.lt_of_lt_of_le hlt hB2.size; have hBw := hB.trans (hB2.mono hB.size)))
  have hgw : w.heap.size < g := by simp at hg; omega
  have hgw' : w.heap.size < g' := by simp at hg'; omega
  have k1 : ∀ (w3 : World) (u : Value) (i q : Nat) (l : List Mv), q ≠ w.heap.size → MvsAt w3 q l → MvsAt (w3.setCell ⟨w.heap.size, i, none⟩ u) q l := fun w3 u i q l hq h j a ha x v hv => by
    rw [cell_put_other _ (by simpa using hq)]; exact h j a ha x v hv
  have m1 := k1 _ (.slice (some ⟨g', 0, none⟩) (wantsE W W.prog.length).length c') 1 g _ (by omega) (k1 _ (.slice (some ⟨g, 0, none⟩) W.log.length c) 0 g _ (by omega) hm)
  have m2 := k1 _ (.slice (some ⟨g', 0, none⟩) (wantsE W W.prog.length).length c') 1 g' _ (by omega) (k1 _ (.slice (some ⟨g, 0, none⟩) W.log.length c) 0 g' _ (by omega) hm')
  refine bodyPost_ret (v := .tuple #[.agg #[.slice (some ⟨g, 0, none⟩) W.log.length c, .slice (some ⟨g', 0, none⟩) (wantsE W W.prog.length).length c'], .int .i64 0]) (by simp [results, Tryd.results19, go_sem, q0', q1', hlt2]) rfl ⟨g, c, g', c', rfl, m1.below ((Below.refl _ _).alloc (Nat.le_refl _) _), m2.below ((Below.refl _ _).alloc (Nat.le_refl _) _), ((hBw.setCell (p := ⟨w.heap.size, 0, none⟩) (by simp) _).setCell (p := ⟨w.heap.size, 1, none⟩) (by simp) _).alloc (by simpa using hBw.size) _, hgw, hgw'⟩
end Go.Proofs.YtdfndcbakcmgiabDoor
namespace Go.Proofs.YtdfndcbakcmgiabDoor
open Go.RowKit

/-! Before: the program's answer is the reference's. -/
theorem strE_mv (a b : Ev) : ldB (mvE a) (mvE b) = strE a b := rfl
theorem ldL_lead (log : List Ev) : ldL (log.map mvE) = leadB log := by
  funext i k
  rw [ldL, leadB, List.getElem?_map, List.getElem?_map]
  cases ha : log[i]? with
  | none => rfl
  | some a =>
    cases hb : log[k]? with
    | none => rfl
    | some b =>
      simp only [Option.map_some, Option.bind_some, Option.getD_some]
      exact strE_mv a b
theorem bfL_ahead (log : List Ev) (hl : log.length ≤ 60) (i j : Nat) (hj : j < log.length) : bfL (log.map mvE) i j = (aheadR log j)[i]?.getD false := by
  rw [before_same log i j hj hl, bfL, ldL_lead, Int.toNat_natCast, Int.toNat_natCast, List.length_map]
  congr 1
  by_cases h : i < j
  · rw [decide_eq_true h, decide_eq_true (by omega)]
  · rw [decide_eq_false h, decide_eq_false (by omega)]

end Go.Proofs.YtdfndcbakcmgiabDoor
