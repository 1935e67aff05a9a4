import Derived.Test.YtdfndcbakcmgiaaT5
namespace Go.Proofs.Ytdfndcbakcmgiaa
open Go.RowKit

def nilTr : Value := .agg #[.slice none 0 0, .slice none 0 0]
set_option maxRecDepth 100000 in
set_option maxHeartbeats 2000000 in
theorem traceOf_err (s sch : ByteArray) (w : World) (h : (ckP s).1 ≠ 0) :
    Calls Try.prog 57 #[.string s, .string sch] w fun e w' => e = .returned (.tuple #[nilTr, .int .i64 (ckP s).1]) ∧ Below w.heap.size w w' := by
  have hR := Read_any s (w.alloc (.cells #[.slice none 0 0, .slice none 0 0] 104))
  rw [read_eq s] at hR
  generalize (ckP s).1 = a at *
  generalize (ckP s).2 = b at *
  have ha : (a != 0) = true := by simpa using h
  go_enter Try.func57, Try.ntmps57
  go_wp2_with (first | (go_at_call 45; refine hR.mono ?_; rintro e w1 ⟨a1, n1, c1, rfl, hb, _⟩; obtain ⟨hc, hz, hlt, hB⟩ := below_new hb; have q0 : w1.cell? ⟨w.heap.size, 0, none⟩ = some (.slice none 0 0) := hc 0 _ rfl; have q1 : w1.cell? ⟨w.heap.size, 1, none⟩ = some (.slice none 0 0) := hc 1 _ rfl; have z0 := hz 0; have z1 := hz 1; clear hc hz))
  exact bodyPost_ret (v := .tuple #[nilTr, .int .i64 a]) (by simp [results, Try.results57, go_sem, q0, q1, nilTr, hlt]) rfl ⟨rfl, ((hB.setCell (p := ⟨w.heap.size, 0, none⟩) (by simp) _).setCell (p := ⟨w.heap.size, 1, none⟩) (by simp) _).alloc (by simpa using hB.size) _⟩

theorem begin_log (ths : List ByteArray) : (beginW ths).log = [] := by simp [beginW, madeW]
set_option maxRecDepth 100000 in
set_option maxHeartbeats 2000000 in
theorem traceOf_none (s sch : ByteArray) (hsch : sch.size ≤ maxLen) (w : World) (h : (ckP s).1 = 0) (hW : toLoop sch (beginW (thLoop s 0 0 [])) 0 = none) :
    Calls Try.prog 57 #[.string s, .string sch] w fun e w' => e = .returned (.tuple #[nilTr, .int .i64 5]) ∧ Below w.heap.size w w' := by
  have hR := Read_any s (w.alloc (.cells #[.slice none 0 0, .slice none 0 0] 104))
  have I0 := begin_inv s h
  have hF0 := begin_first s h
  have hl0 := begin_log (thLoop s 0 0 [])
  rw [progL_begin s h, read_eq s, h] at hR
  generalize beginW (thLoop s 0 0 []) = W0 at *
  generalize (ckP s).2 = b at *
  have hFo := fun V w' (hp : ProgIn w' (w.heap.size + 1) V (progL W0)) => FollowT_any V W0 I0 hl0 hF0 sch hsch w' (w.heap.size + 1) hp
  rw [hW] at hFo
  simp only [FolP] at hFo
  have hs1 : (w.alloc (.cells #[.slice none 0 0, .slice none 0 0] 104)).heap.size = w.heap.size + 1 := by simp
  clear hF0 hl0 hW
  go_enter Try.func57, Try.ntmps57
  go_wp2_with (first
    | (go_at_call 45; refine hR.mono ?_; rintro e w1 ⟨a1, n1, c1, rfl, hb, hpp⟩; obtain ⟨hc, hz, hlt, hB⟩ := below_new hb; have q0 : w1.cell? ⟨w.heap.size, 0, none⟩ = some (.slice none 0 0) := hc 0 _ rfl; have q1 : w1.cell? ⟨w.heap.size, 1, none⟩ = some (.slice none 0 0) := hc 1 _ rfl; have z0 := hz 0; have z1 := hz 1; clear hc hz; have HPP : Hid (ProgIn (w1.alloc (.cells #[.slice a1 n1 c1] 72)) (w.heap.size + 1) (.slice a1 n1 c1) (progL W0)) := (by rw [← hs1]; exact (hpp rfl).alloc _); clear hpp)
    | (go_at_call 89; refine (hFo _ _ HPP.out).mono ?_; rintro e w2 ⟨rfl, hb2⟩; obtain ⟨_, _, _, hB2⟩ := below_new hb2; have q0' := cell_later hB2 q0; have q1' := cell_later hB2 q1; have z0' := frozen_later hB2 q0 z0; have z1' := frozen_later hB2 q1 z1; have hlt2 := Nat.lt_of_lt_of_le hlt hB2.size; have hBw := hB.trans (hB2.mono hB.size)))
  exact bodyPost_ret (v := .tuple #[nilTr, .int .i64 5]) (by simp [results, Try.results57, go_sem, q0', q1', nilTr, hlt2]) rfl ⟨rfl, ((hBw.setCell (p := ⟨w.heap.size, 0, none⟩) (by simp) _).setCell (p := ⟨w.heap.size, 1, none⟩) (by simp) _).alloc (by simpa using hBw.size) _⟩

set_option maxRecDepth 100000 in
set_option maxHeartbeats 2000000 in
theorem traceOf_ok (s sch : ByteArray) (hsch : sch.size ≤ maxLen) (w : World) (h : (ckP s).1 = 0) (W : Wd) (hW : toLoop sch (beginW (thLoop s 0 0 [])) 0 = some W) :
    Calls Try.prog 57 #[.string s, .string sch] w fun e w' => ∃ g c g' c', e = .returned (.tuple #[.agg #[.slice (some ⟨g, 0, none⟩) W.log.length c, .slice (some ⟨g', 0, none⟩) (wantsE W W.prog.length).length c'], .int .i64 0]) ∧ MvsAt w' g (W.log.map mvE) ∧ MvsAt w' g' ((wantsE W W.prog.length).map mvE) ∧ Below w.heap.size w w' ∧ w.heap.size < g ∧ w.heap.size < g' := by
  have hR := Read_any s (w.alloc (.cells #[.slice none 0 0, .slice none 0 0] 104))
  have I0 := begin_inv s h
  have hF0 := begin_first s h
  have hl0 := begin_log (thLoop s 0 0 [])
  rw [progL_begin s h, read_eq s, h] at hR
  generalize beginW (thLoop s 0 0 []) = W0 at *
  generalize (ckP s).2 = b at *
  have hFo := fun V w' (hp : ProgIn w' (w.heap.size + 1) V (progL W0)) => FollowT_any V W0 I0 hl0 hF0 sch hsch w' (w.heap.size + 1) hp
  rw [hW] at hFo
  simp only [FolP] at hFo
  have hs1 : (w.alloc (.cells #[.slice none 0 0, .slice none 0 0] 104)).heap.size = w.heap.size + 1 := by simp
  clear hF0 hl0 hW
  go_enter Try.func57, Try.ntmps57
  go_wp2_with (first
    | (go_at_call 45; refine hR.mono ?_; rintro e w1 ⟨a1, n1, c1, rfl, hb, hpp⟩; obtain ⟨hc, hz, hlt, hB⟩ := below_new hb; have q0 : w1.cell? ⟨w.heap.size, 0, none⟩ = some (.slice none 0 0) := hc 0 _ rfl; have q1 : w1.cell? ⟨w.heap.size, 1, none⟩ = some (.slice none 0 0) := hc 1 _ rfl; have z0 := hz 0; have z1 := hz 1; clear hc hz; have HPP : Hid (ProgIn (w1.alloc (.cells #[.slice a1 n1 c1] 72)) (w.heap.size + 1) (.slice a1 n1 c1) (progL W0)) := (by rw [← hs1]; exact (hpp rfl).alloc _); clear hpp)
    | (go_at_call 89; refine (hFo _ _ HPP.out).mono ?_; rintro e w2 ⟨⟨g, c, g', c', rfl, hm, hm', hg, hg'⟩, hb2⟩; obtain ⟨_, _, _, hB2⟩ := below_new hb2; have q0' := cell_later hB2 q0; have q1' := cell_later hB2 q1; have z0' := frozen_later hB2 q0 z0; have z1' := frozen_later hB2 q1 z1; have hlt2 := Nat.lt_of_lt_of_le hlt hB2.size; have hBw := hB.trans (hB2.mono hB.size)))
  have hgw : w.heap.size < g := by simp at hg; omega
  have hgw' : w.heap.size < g' := by simp at hg'; omega
  have k1 : ∀ (w3 : World) (u : Value) (i q : Nat) (l : List Mv), q ≠ w.heap.size → MvsAt w3 q l → MvsAt (w3.setCell ⟨w.heap.size, i, none⟩ u) q l := fun w3 u i q l hq h j a ha x v hv => by
    rw [cell_put_other _ (by simpa using hq)]; exact h j a ha x v hv
  have m1 := k1 _ (.slice (some ⟨g', 0, none⟩) (wantsE W W.prog.length).length c') 1 g _ (by omega) (k1 _ (.slice (some ⟨g, 0, none⟩) W.log.length c) 0 g _ (by omega) hm)
  have m2 := k1 _ (.slice (some ⟨g', 0, none⟩) (wantsE W W.prog.length).length c') 1 g' _ (by omega) (k1 _ (.slice (some ⟨g, 0, none⟩) W.log.length c) 0 g' _ (by omega) hm')
  refine bodyPost_ret (v := .tuple #[.agg #[.slice (some ⟨g, 0, none⟩) W.log.length c, .slice (some ⟨g', 0, none⟩) (wantsE W W.prog.length).length c'], .int .i64 0]) (by simp [results, Try.results57, go_sem, q0', q1', hlt2]) rfl ⟨g, c, g', c', rfl, m1.below ((Below.refl _ _).alloc (Nat.le_refl _) _), m2.below ((Below.refl _ _).alloc (Nat.le_refl _) _), ((hBw.setCell (p := ⟨w.heap.size, 0, none⟩) (by simp) _).setCell (p := ⟨w.heap.size, 1, none⟩) (by simp) _).alloc (by simpa using hBw.size) _, hgw, hgw'⟩
end Go.Proofs.Ytdfndcbakcmgiaa
namespace Go.Proofs.Ytdfndcbakcmgiaa
open Go.RowKit

/-! Before: the program's answer is the reference's. -/
theorem strE_mv (a b : Ev) : ldB (mvE a) (mvE b) = strE a b := rfl
theorem ldL_lead (log : List Ev) : ldL (log.map mvE) = leadB log := by
  funext i k
  rw [ldL, leadB, List.getElem?_map, List.getElem?_map]
  cases ha : log[i]? with
  | none => rfl
  | some a =>
    cases hb : log[k]? with
    | none => rfl
    | some b =>
      simp only [Option.map_some, Option.bind_some, Option.getD_some]
      exact strE_mv a b
theorem bfL_ahead (log : List Ev) (hl : log.length ≤ 60) (i j : Nat) (hj : j < log.length) : bfL (log.map mvE) i j = (aheadR log j)[i]?.getD false := by
  rw [before_same log i j hj hl, bfL, ldL_lead, Int.toNat_natCast, Int.toNat_natCast, List.length_map]
  congr 1
  by_cases h : i < j
  · rw [decide_eq_true h, decide_eq_true (by omega)]
  · rw [decide_eq_false h, decide_eq_false (by omega)]

theorem before_bad (s sch : ByteArray) (i j a : Int) (ha : a ≠ 0) (w : World) (hwd : ∀ w, Calls Try.prog 57 #[.string s, .string sch] w fun e w' => e = .returned (.tuple #[nilTr, .int .i64 a]) ∧ Below w.heap.size w w') :
    Calls Try.prog 25 #[.string s, .string sch, .int .i64 i, .int .i64 j] w fun e w' => e = .returned (.tuple #[.bool false, .int .i64 a]) ∧ Below w.heap.size w w' := by
  have hb : (a != 0) = true := by simpa using ha
  go_enter Try.func25, Try.ntmps25
  go_wp2_with (first | (go_at_call 57; refine (hwd _).mono ?_; rintro e w1 ⟨he, hB1⟩; rw [nilTr] at he; subst he))
  go_ret2
  exact ⟨rfl, hB1.alloc hB1.size _⟩

set_option maxRecDepth 100000 in
set_option maxHeartbeats 2000000 in
theorem before_ok (s sch : ByteArray) (i j : Int) (hsch : sch.size ≤ maxLen) (w : World) (h0 : (ckP s).1 = 0) (W : Wd) (hW : toLoop sch (beginW (thLoop s 0 0 [])) 0 = some W) :
    Calls Try.prog 25 #[.string s, .string sch, .int .i64 i, .int .i64 j] w fun e w' => e = .returned (.tuple #[.bool (befW W i j).1, .int .i64 (befW W i j).2]) ∧ Below w.heap.size w w' := by
  have I0 := begin_inv s h0
  have hwd := fun w => traceOf_ok s sch hsch w h0 W hW
  have hsm := (toLoop_inv sch _ 0 _ W rfl I0 hW).1.small
  have hlen : (W.log.map mvE).length = W.log.length := List.length_map _
  have hH := fun c g Wn (x : Int) w => Has_any (some ⟨g, 0, none⟩) c W.log.length Wn w x
  have hBf := fun g c Wn w (hm : MvsAt w g (W.log.map mvE)) => BeforeT_any g c Wn (W.log.map mvE) w hm (by rw [hlen]; exact hsm) i j
  rw [hlen] at hBf
  generalize wantsE W W.prog.length = wl at *
  by_cases h1 : 0 ≤ i ∧ i < W.log.length
  · by_cases h2 : 0 ≤ j ∧ j < W.log.length
    · have hr : befW W i j = (bfL (W.log.map mvE) i j, 0) := by
        obtain ⟨a, rfl⟩ : ∃ a : Nat, i = a := ⟨i.toNat, by omega⟩
        obtain ⟨b, rfl⟩ : ∃ b : Nat, j = b := ⟨j.toNat, by omega⟩
        rw [bfL_ahead W.log hsm a b (by omega), befW, if_neg (by omega), Int.toNat_natCast, Int.toNat_natCast]
      rw [hr]
      generalize bfL (W.log.map mvE) i j = r at *
      have D1 : Hid (decide (0 ≤ i ∧ i < (W.log.length : Int)) = true) := decide_eq_true h1
      have D2 : Hid (decide (0 ≤ j ∧ j < (W.log.length : Int)) = true) := decide_eq_true h2
      clear hr hlen I0 hW h0 h1 h2
      go_enter Try.func25, Try.ntmps25
      go_wp2_with (first
        | (go_at_call 57; refine (hwd _).mono ?_; rintro e w1 ⟨g, c, g', c', rfl, hm, hm', hB1, hg, hg'⟩; have hB2 := hB1.alloc hB1.size (.cells #[.slice (some ⟨g, 0, none⟩) W.log.length c, .slice (some ⟨g', 0, none⟩) wl.length c'] 104); have hm2 := hm.below ((Below.refl _ _).alloc (Nat.le_refl _) (.cells #[.slice (some ⟨g, 0, none⟩) W.log.length c, .slice (some ⟨g', 0, none⟩) wl.length c'] 104)))
        | (go_at_call 60; refine (hH _ _ _ _ _).mono ?_; first | (rintro e w2 ⟨he, hb2⟩; rw [D1.out] at he; subst he; obtain ⟨hc, _, _, _⟩ := below_new hb2; have q0 : w2.cell? ⟨w1.heap.size, 0, none⟩ = some (.slice (some ⟨g, 0, none⟩) W.log.length c) := hc 0 _ rfl; have q1 : w2.cell? ⟨w1.heap.size, 1, none⟩ = some (.slice (some ⟨g', 0, none⟩) wl.length c') := hc 1 _ rfl; clear hc) | (rintro e w3 ⟨he, hb3⟩; rw [D2.out] at he; subst he; have u0 := cell_later hb3 q0; have u1 := cell_later hb3 q1; have hm3 := (hm2.below hb2).below hb3))
        | (go_at_call 61; refine (hBf _ _ _ _ hm3).mono ?_; rintro e w4 ⟨rfl, hb4⟩))
      go_ret2
      exact ⟨rfl, ((hB2.trans (hb2.mono hB2.size)).trans (hb3.mono (Nat.le_trans hB2.size hb2.size))).trans (hb4.mono (Nat.le_trans (Nat.le_trans hB2.size hb2.size) hb3.size))⟩
    · have hr : befW W i j = (false, 6) := by rw [befW, if_pos (by omega)]
      rw [hr]
      have D1 : Hid (decide (0 ≤ i ∧ i < (W.log.length : Int)) = true) := decide_eq_true h1
      have D2 : Hid (decide (0 ≤ j ∧ j < (W.log.length : Int)) = false) := decide_eq_false h2
      clear hr hlen I0 hW h0 h1 h2
      go_enter Try.func25, Try.ntmps25
      go_wp2_with (first
        | (go_at_call 57; refine (hwd _).mono ?_; rintro e w1 ⟨g, c, g', c', rfl, hm, hm', hB1, hg, hg'⟩; have hB2 := hB1.alloc hB1.size (.cells #[.slice (some ⟨g, 0, none⟩) W.log.length c, .slice (some ⟨g', 0, none⟩) wl.length c'] 104))
        | (go_at_call 60; refine (hH _ _ _ _ _).mono ?_; first | (rintro e w2 ⟨he, hb2⟩; rw [D1.out] at he; subst he; obtain ⟨hc, _, _, _⟩ := below_new hb2; have q0 : w2.cell? ⟨w1.heap.size, 0, none⟩ = some (.slice (some ⟨g, 0, none⟩) W.log.length c) := hc 0 _ rfl; have q1 : w2.cell? ⟨w1.heap.size, 1, none⟩ = some (.slice (some ⟨g', 0, none⟩) wl.length c') := hc 1 _ rfl; clear hc) | (rintro e w3 ⟨he, hb3⟩; rw [D2.out] at he; subst he)))
      go_ret2
      exact ⟨rfl, (hB2.trans (hb2.mono hB2.size)).trans (hb3.mono (Nat.le_trans hB2.size hb2.size))⟩
  · have hr : befW W i j = (false, 6) := by rw [befW, if_pos (by omega)]
    rw [hr]
    have D1 : Hid (decide (0 ≤ i ∧ i < (W.log.length : Int)) = false) := decide_eq_false h1
    clear hr hlen I0 hW h0 h1
    go_enter Try.func25, Try.ntmps25
    go_wp2_with (first
      | (go_at_call 57; refine (hwd _).mono ?_; rintro e w1 ⟨g, c, g', c', rfl, hm, hm', hB1, hg, hg'⟩; have hB2 := hB1.alloc hB1.size (.cells #[.slice (some ⟨g, 0, none⟩) W.log.length c, .slice (some ⟨g', 0, none⟩) wl.length c'] 104))
      | (go_at_call 60; refine (hH _ _ _ _ _).mono ?_; rintro e w2 ⟨he, hb2⟩; rw [D1.out] at he; subst he))
    go_ret2
    exact ⟨rfl, hB2.trans (hb2.mono hB2.size)⟩

theorem before_any (s sch : ByteArray) (i j : Int) (hsch : sch.size ≤ maxLen) (w : World) :
    Calls Try.prog 25 #[.string s, .string sch, .int .i64 i, .int .i64 j] w fun e w' => e = .returned (.tuple #[.bool (befV s sch i j).1, .int .i64 (befV s sch i j).2]) ∧ Below w.heap.size w w' := by
  unfold befV
  by_cases h : (ckP s).1 ≠ 0
  · rw [if_pos h]
    exact before_bad s sch i j _ h w (fun w => traceOf_err s sch w h)
  · rw [if_neg h]
    have h0 : (ckP s).1 = 0 := by omega
    cases hW : toLoop sch (beginW (thLoop s 0 0 [])) 0 with
    | none => exact before_bad s sch i j 5 (by decide) w (fun w => traceOf_none s sch hsch w h0 hW)
    | some W => exact before_ok s sch i j hsch w h0 W hW
end Go.Proofs.Ytdfndcbakcmgiaa
