import Derived.Test.YtfdbnilopfnifaaT9
import Derived.Test.YtfdbnilopfnifaaR3
namespace Go.Proofs.Ytfdbnilopfnifaa
open Go.RowKit

def nilTr : Value := .agg #[.slice none 0 0, .slice none 0 0]
set_option maxRecDepth 100000 in
set_option maxHeartbeats 2000000 in
theorem traceOf_err (s sch : ByteArray) (w : World) (h : (ckP s).1 ≠ 0) :
    Calls Try.prog 57 #[.string s, .string sch] w fun e w' => e = .returned (.tuple #[nilTr, .int .i64 (ckP s).1]) ∧ Below w.heap.size w w' := by
  have hR := Read_any s (w.alloc (.cells #[.slice none 0 0, .slice none 0 0] 104))
  rw [read_eq s] at hR
  generalize (ckP s).1 = a at *
  generalize (ckP s).2 = b at *
  have ha : (a != 0) = true := by simpa using h
  go_enter Try.func57, Try.ntmps57
  go_wp2_with (first | (go_at_call 45; refine hR.mono ?_; rintro e w1 ⟨a1, n1, c1, rfl, hb, _⟩; obtain ⟨hc, hz, hlt, hB⟩ := below_new hb; have q0 : w1.cell? ⟨w.heap.size, 0, none⟩ = some (.slice none 0 0) := hc 0 _ rfl; have q1 : w1.cell? ⟨w.heap.size, 1, none⟩ = some (.slice none 0 0) := hc 1 _ rfl; have z0 := hz 0; have z1 := hz 1; clear hc hz))
  exact bodyPost_ret (v := .tuple #[nilTr, .int .i64 a]) (by simp [results, Try.results57, go_sem, q0, q1, nilTr, hlt]) rfl ⟨rfl, ((hB.setCell (p := ⟨w.heap.size, 0, none⟩) (by simp) _).setCell (p := ⟨w.heap.size, 1, none⟩) (by simp) _).alloc (by simpa using hB.size) _⟩

theorem begin_log (ths : List ByteArray) : (beginW ths).log = [] := by simp [beginW, madeW]
set_option maxRecDepth 100000 in
set_option maxHeartbeats 2000000 in
theorem traceOf_none (s sch : ByteArray) (hsch : sch.size ≤ maxLen) (w : World) (h : (ckP s).1 = 0) (hW : toLoop sch (beginW (thLoop s 0 0 [])) 0 = none) :
    Calls Try.prog 57 #[.string s, .string sch] w fun e w' => e = .returned (.tuple #[nilTr, .int .i64 5]) ∧ Below w.heap.size w w' := by
  have hR := Read_any s (w.alloc (.cells #[.slice none 0 0, .slice none 0 0] 104))
  have I0 := begin_inv s h
  have hF0 := begin_first s h
  have hl0 := begin_log (thLoop s 0 0 [])
  rw [progL_begin s h, read_eq s, h] at hR
  generalize beginW (thLoop s 0 0 []) = W0 at *
  generalize (ckP s).2 = b at *
  have hFo := fun V w' (hp : ProgIn w' (w.heap.size + 1) V (progL W0)) => FollowT_any V W0 I0 hl0 hF0 sch hsch w' (w.heap.size + 1) hp
  rw [hW] at hFo
  simp only [FolP] at hFo
  have hs1 : (w.alloc (.cells #[.slice none 0 0, .slice none 0 0] 104)).heap.size = w.heap.size + 1 := by simp
  clear hF0 hl0 hW
  go_enter Try.func57, Try.ntmps57
  go_wp2_with (first
    | (go_at_call 45; refine hR.mono ?_; rintro e w1 ⟨a1, n1, c1, rfl, hb, hpp⟩; obtain ⟨hc, hz, hlt, hB⟩ := below_new hb; have q0 : w1.cell? ⟨w.heap.size, 0, none⟩ = some (.slice none 0 0) := hc 0 _ rfl; have q1 : w1.cell? ⟨w.heap.size, 1, none⟩ = some (.slice none 0 0) := hc 1 _ rfl; have z0 := hz 0; have z1 := hz 1; clear hc hz; have HPP : Hid (ProgIn (w1.alloc (.cells #[.slice a1 n1 c1] 72)) (w.heap.size + 1) (.slice a1 n1 c1) (progL W0)) := (by rw [← hs1]; exact (hpp rfl).alloc _); clear hpp)
    | (go_at_call 89; refine (hFo _ _ HPP.out).mono ?_; rintro e w2 ⟨rfl, hb2⟩; obtain ⟨_, _, _, hB2⟩ := below_new hb2; have q0' := cell_later hB2 q0; have q1' := cell_later hB2 q1; have z0' := frozen_later hB2 q0 z0; have z1' := frozen_later hB2 q1 z1; have hlt2 := Nat.lt_of_lt_of_le hlt hB2.size; have hBw := hB.trans (hB2.mono hB.size)))
  exact bodyPost_ret (v := .tuple #[nilTr, .int .i64 5]) (by simp [results, Try.results57, go_sem, q0', q1', nilTr, hlt2]) rfl ⟨rfl, ((hBw.setCell (p := ⟨w.heap.size, 0, none⟩) (by simp) _).setCell (p := ⟨w.heap.size, 1, none⟩) (by simp) _).alloc (by simpa using hBw.size) _⟩

set_option maxRecDepth 100000 in
set_option maxHeartbeats 2000000 in
theorem traceOf_ok (s sch : ByteArray) (hsch : sch.size ≤ maxLen) (w : World) (h : (ckP s).1 = 0) (W : Wd) (hW : toLoop sch (beginW (thLoop s 0 0 [])) 0 = some W) :
    Calls Try.prog 57 #[.string s, .string sch] w fun e w' => ∃ g c g' c', e = .returned (.tuple #[.agg #[.slice (some ⟨g, 0, none⟩) W.log.length c, .slice (some ⟨g', 0, none⟩) (wantsE W W.prog.length).length c'], .int .i64 0]) ∧ MvsAt w' g (W.log.map mvE) ∧ MvsAt w' g' ((wantsE W W.prog.length).map mvE) ∧ Below w.heap.size w w' ∧ w.heap.size < g ∧ w.heap.size < g' := by
  have hR := Read_any s (w.alloc (.cells #[.slice none 0 0, .slice none 0 0] 104))
  have I0 := begin_inv s h
  have hF0 := begin_first s h
  have hl0 := begin_log (thLoop s 0 0 [])
  rw [progL_begin s h, read_eq s, h] at hR
  generalize beginW (thLoop s 0 0 []) = W0 at *
  generalize (ckP s).2 = b at *
  have hFo := fun V w' (hp : ProgIn w' (w.heap.size + 1) V (progL W0)) => FollowT_any V W0 I0 hl0 hF0 sch hsch w' (w.heap.size + 1) hp
  rw [hW] at hFo
  simp only [FolP] at hFo
  have hs1 : (w.alloc (.cells #[.slice none 0 0, .slice none 0 0] 104)).heap.size = w.heap.size + 1 := by simp
  clear hF0 hl0 hW
  go_enter Try.func57, Try.ntmps57
  go_wp2_with (first
    | (go_at_call 45; refine hR.mono ?_; rintro e w1 ⟨a1, n1, c1, rfl, hb, hpp⟩; obtain ⟨hc, hz, hlt, hB⟩ := below_new hb; have q0 : w1.cell? ⟨w.heap.size, 0, none⟩ = some (.slice none 0 0) := hc 0 _ rfl; have q1 : w1.cell? ⟨w.heap.size, 1, none⟩ = some (.slice none 0 0) := hc 1 _ rfl; have z0 := hz 0; have z1 := hz 1; clear hc hz; have HPP : Hid (ProgIn (w1.alloc (.cells #[.slice a1 n1 c1] 72)) (w.heap.size + 1) (.slice a1 n1 c1) (progL W0)) := (by rw [← hs1]; exact (hpp rfl).alloc _); clear hpp)
    | (go_at_call 89; refine (hFo _ _ HPP.out).mono ?_; rintro e w2 ⟨⟨g, c, g', c', rfl, hm, hm', hg, hg'⟩, hb2⟩; obtain ⟨_, _, _, hB2⟩ := below_new hb2; have q0' := cell_later hB2 q0; have q1' := cell_later hB2 q1; have z0' := frozen_later hB2 q0 z0; have z1' := frozen_later hB2 q1 z1; have hlt2 := Nat.lt_of_lt_of_le hlt hB2.size; have hBw := hB.trans (hB2.mono hB.size)))
  have hgw : w.heap.size < g := by simp at hg; omega
  have hgw' : w.heap.size < g' := by simp at hg'; omega
  have k1 : ∀ (w3 : World) (u : Value) (i q : Nat) (l : List Mv), q ≠ w.heap.size → MvsAt w3 q l → MvsAt (w3.setCell ⟨w.heap.size, i, none⟩ u) q l := fun w3 u i q l hq h j a ha x v hv => by
    rw [cell_put_other _ (by simpa using hq)]; exact h j a ha x v hv
  have m1 := k1 _ (.slice (some ⟨g', 0, none⟩) (wantsE W W.prog.length).length c') 1 g _ (by omega) (k1 _ (.slice (some ⟨g, 0, none⟩) W.log.length c) 0 g _ (by omega) hm)
  have m2 := k1 _ (.slice (some ⟨g', 0, none⟩) (wantsE W W.prog.length).length c') 1 g' _ (by omega) (k1 _ (.slice (some ⟨g, 0, none⟩) W.log.length c) 0 g' _ (by omega) hm')
  refine bodyPost_ret (v := .tuple #[.agg #[.slice (some ⟨g, 0, none⟩) W.log.length c, .slice (some ⟨g', 0, none⟩) (wantsE W W.prog.length).length c'], .int .i64 0]) (by simp [results, Try.results57, go_sem, q0', q1', hlt2]) rfl ⟨g, c, g', c', rfl, m1.below ((Below.refl _ _).alloc (Nat.le_refl _) _), m2.below ((Below.refl _ _).alloc (Nat.le_refl _) _), ((hBw.setCell (p := ⟨w.heap.size, 0, none⟩) (by simp) _).setCell (p := ⟨w.heap.size, 1, none⟩) (by simp) _).alloc (by simpa using hBw.size) _, hgw, hgw'⟩
end Go.Proofs.Ytfdbnilopfnifaa
namespace Go.Proofs.Ytfdbnilopfnifaa
open Go.RowKit

/-! Before: the program's answer is the reference's. -/
theorem strE_mv (a b : Ev) : ldB (mvE a) (mvE b) = strE a b := rfl
theorem ldL_lead (log : List Ev) : ldL (log.map mvE) = leadB log := by
  funext i k
  rw [ldL, leadB, List.getElem?_map, List.getElem?_map]
  cases ha : log[i]? with
  | none => rfl
  | some a =>
    cases hb : log[k]? with
    | none => rfl
    | some b =>
      simp only [Option.map_some, Option.bind_some, Option.getD_some]
      exact strE_mv a b
theorem bfL_ahead (log : List Ev) (hl : log.length ≤ 60) (i j : Nat) (hj : j < log.length) : bfL (log.map mvE) i j = (aheadR log j)[i]?.getD false := by
  rw [before_same log i j hj hl, bfL, ldL_lead, Int.toNat_natCast, Int.toNat_natCast, List.length_map]
  congr 1
  by_cases h : i < j
  · rw [decide_eq_true h, decide_eq_true (by omega)]
  · rw [decide_eq_false h, decide_eq_false (by omega)]

theorem before_bad (s sch : ByteArray) (i j a : Int) (ha : a ≠ 0) (w : World) (hwd : ∀ w, Calls Try.prog 57 #[.string s, .string sch] w fun e w' => e = .returned (.tuple #[nilTr, .int .i64 a]) ∧ Below w.heap.size w w') :
    Calls Try.prog 25 #[.string s, .string sch, .int .i64 i, .int .i64 j] w fun e w' => e = .returned (.tuple #[.bool false, .int .i64 a]) ∧ Below w.heap.size w w' := by
  have hb : (a != 0) = true := by simpa using ha
  go_enter Try.func25, Try.ntmps25
  go_wp2_with (first | (go_at_call 57; refine (hwd _).mono ?_; rintro e w1 ⟨he, hB1⟩; rw [nilTr] at he; subst he))
  go_ret2
  exact ⟨rfl, hB1.alloc hB1.size _⟩

set_option maxRecDepth 100000 in
set_option maxHeartbeats 2000000 in
theorem before_ok (s sch : ByteArray) (i j : Int) (hsch : sch.size ≤ maxLen) (w : World) (h0 : (ckP s).1 = 0) (W : Wd) (hW : toLoop sch (beginW (thLoop s 0 0 [])) 0 = some W) :
    Calls Try.prog 25 #[.string s, .string sch, .int .i64 i, .int .i64 j] w fun e w' => e = .returned (.tuple #[.bool (befW W i j).1, .int .i64 (befW W i j).2]) ∧ Below w.heap.size w w' := by
  have I0 := begin_inv s h0
  have hwd := fun w => traceOf_ok s sch hsch w h0 W hW
  have hsm := (toLoop_inv sch _ 0 _ W rfl I0 hW).1.small
  have hlen : (W.log.map mvE).length = W.log.length := List.length_map _
  have hH := fun c g Wn (x : Int) w => Has_any (some ⟨g, 0, none⟩) c W.log.length Wn w x
  have hBf := fun g c Wn w (hm : MvsAt w g (W.log.map mvE)) => BeforeT_any g c Wn (W.log.map mvE) w hm (by rw [hlen]; exact hsm) i j
  rw [hlen] at hBf
  generalize wantsE W W.prog.length = wl at *
  by_cases h1 : 0 ≤ i ∧ i < W.log.length
  · by_cases h2 : 0 ≤ j ∧ j < W.log.length
    · have hr : befW W i j = (bfL (W.log.map mvE) i j, 0) := by
        obtain ⟨a, rfl⟩ : ∃ a : Nat, i = a := ⟨i.toNat, by omega⟩
        obtain ⟨b, rfl⟩ : ∃ b : Nat, j = b := ⟨j.toNat, by omega⟩
        rw [bfL_ahead W.log hsm a b (by omega), befW, if_neg (by omega), Int.toNat_natCast, Int.toNat_natCast]
      rw [hr]
      generalize bfL (W.log.map mvE) i j = r at *
      have D1 : Hid (decide (0 ≤ i ∧ i < (W.log.length : Int)) = true) := decide_eq_true h1
      have D2 : Hid (decide (0 ≤ j ∧ j < (W.log.length : Int)) = true) := decide_eq_true h2
      clear hr hlen I0 hW h0 h1 h2
      go_enter Try.func25, Try.ntmps25
      go_wp2_with (first
        | (go_at_call 57; refine (hwd _).mono ?_; rintro e w1 ⟨g, c, g', c', rfl, hm, hm', hB1, hg, hg'⟩; have hB2 := hB1.alloc hB1.size (.cells #[.slice (some ⟨g, 0, none⟩) W.log.length c, .slice (some ⟨g', 0, none⟩) wl.length c'] 104); have hm2 := hm.below ((Below.refl _ _).alloc (Nat.le_refl _) (.cells #[.slice (some ⟨g, 0, none⟩) W.log.length c, .slice (some ⟨g', 0, none⟩) wl.length c'] 104)))
        | (go_at_call 60; refine (hH _ _ _ _ _).mono ?_; first | (rintro e w2 ⟨he, hb2⟩; rw [D1.out] at he; subst he; obtain ⟨hc, _, _, _⟩ := below_new hb2; have q0 : w2.cell? ⟨w1.heap.size, 0, none⟩ = some (.slice (some ⟨g, 0, none⟩) W.log.length c) := hc 0 _ rfl; have q1 : w2.cell? ⟨w1.heap.size, 1, none⟩ = some (.slice (some ⟨g', 0, none⟩) wl.length c') := hc 1 _ rfl; clear hc) | (rintro e w3 ⟨he, hb3⟩; rw [D2.out] at he; subst he; have u0 := cell_later hb3 q0; have u1 := cell_later hb3 q1; have hm3 := (hm2.below hb2).below hb3))
        | (go_at_call 61; refine (hBf _ _ _ _ hm3).mono ?_; rintro e w4 ⟨rfl, hb4⟩))
      go_ret2
      exact ⟨rfl, ((hB2.trans (hb2.mono hB2.size)).trans (hb3.mono (Nat.le_trans hB2.size hb2.size))).trans (hb4.mono (Nat.le_trans (Nat.le_trans hB2.size hb2.size) hb3.size))⟩
    · have hr : befW W i j = (false, 6) := by rw [befW, if_pos (by omega)]
      rw [hr]
      have D1 : Hid (decide (0 ≤ i ∧ i < (W.log.length : Int)) = true) := decide_eq_true h1
      have D2 : Hid (decide (0 ≤ j ∧ j < (W.log.length : Int)) = false) := decide_eq_false h2
      clear hr hlen I0 hW h0 h1 h2
      go_enter Try.func25, Try.ntmps25
      go_wp2_with (first
        | (go_at_call 57; refine (hwd _).mono ?_; rintro e w1 ⟨g, c, g', c', rfl, hm, hm', hB1, hg, hg'⟩; have hB2 := hB1.alloc hB1.size (.cells #[.slice (some ⟨g, 0, none⟩) W.log.length c, .slice (some ⟨g', 0, none⟩) wl.length c'] 104))
        | (go_at_call 60; refine (hH _ _ _ _ _).mono ?_; first | (rintro e w2 ⟨he, hb2⟩; rw [D1.out] at he; subst he; obtain ⟨hc, _, _, _⟩ := below_new hb2; have q0 : w2.cell? ⟨w1.heap.size, 0, none⟩ = some (.slice (some ⟨g, 0, none⟩) W.log.length c) := hc 0 _ rfl; have q1 : w2.cell? ⟨w1.heap.size, 1, none⟩ = some (.slice (some ⟨g', 0, none⟩) wl.length c') := hc 1 _ rfl; clear hc) | (rintro e w3 ⟨he, hb3⟩; rw [D2.out] at he; subst he)))
      go_ret2
      exact ⟨rfl, (hB2.trans (hb2.mono hB2.size)).trans (hb3.mono (Nat.le_trans hB2.size hb2.size))⟩
  · have hr : befW W i j = (false, 6) := by rw [befW, if_pos (by omega)]
    rw [hr]
    have D1 : Hid (decide (0 ≤ i ∧ i < (W.log.length : Int)) = false) := decide_eq_false h1
    clear hr hlen I0 hW h0 h1
    go_enter Try.func25, Try.ntmps25
    go_wp2_with (first
      | (go_at_call 57; refine (hwd _).mono ?_; rintro e w1 ⟨g, c, g', c', rfl, hm, hm', hB1, hg, hg'⟩; have hB2 := hB1.alloc hB1.size (.cells #[.slice (some ⟨g, 0, none⟩) W.log.length c, .slice (some ⟨g', 0, none⟩) wl.length c'] 104))
      | (go_at_call 60; refine (hH _ _ _ _ _).mono ?_; rintro e w2 ⟨he, hb2⟩; rw [D1.out] at he; subst he))
    go_ret2
    exact ⟨rfl, hB2.trans (hb2.mono hB2.size)⟩

theorem before_any (s sch : ByteArray) (i j : Int) (hsch : sch.size ≤ maxLen) (w : World) :
    Calls Try.prog 25 #[.string s, .string sch, .int .i64 i, .int .i64 j] w fun e w' => e = .returned (.tuple #[.bool (befV s sch i j).1, .int .i64 (befV s sch i j).2]) ∧ Below w.heap.size w w' := by
  unfold befV
  by_cases h : (ckP s).1 ≠ 0
  · rw [if_pos h]
    exact before_bad s sch i j _ h w (fun w => traceOf_err s sch w h)
  · rw [if_neg h]
    have h0 : (ckP s).1 = 0 := by omega
    cases hW : toLoop sch (beginW (thLoop s 0 0 [])) 0 with
    | none => exact before_bad s sch i j 5 (by decide) w (fun w => traceOf_none s sch hsch w h0 hW)
    | some W => exact before_ok s sch i j hsch w h0 W hW
end Go.Proofs.Ytfdbnilopfnifaa
namespace Go.Proofs.Ytfdbnilopfnifaa
open Go.RowKit

/-! The flag that an event asks for: who changed it last. -/
def oneF (u : Nat) : ByteArray := ⟨#[UInt8.ofNat (117 + u)]⟩
def twoF (c u : Nat) : ByteArray := ⟨#[UInt8.ofNat c, UInt8.ofNat (117 + u)]⟩
theorem twoF_b0 (c u : Nat) (h : c < 256) : byteI (twoF c u) 0 = c := by
  rw [← byteI_in (show 0 < (twoF c u).size by show 0 < 2; omega)]
  show ((UInt8.ofNat c).toNat : Int) = c
  rw [UInt8.toNat_ofNat']; omega
theorem twoF_b1 (c u : Nat) (h : u ≤ 100) : byteI (twoF c u) 1 = 117 + u := by
  rw [← byteI_in (show 1 < (twoF c u).size by show 1 < 2; omega)]
  show ((UInt8.ofNat (117 + u)).toNat : Int) = 117 + u
  rw [UInt8.toNat_ofNat']; omega
theorem flag_eq {n : Nat} {d : ByteArray} (h : DOk n d) (c kd u : Nat) (hc : (c = 33 ∧ kd = 3) ∨ (c = 126 ∧ kd = 4)) (hu : u < 6) : (d.toList == (twoF c u).toList) = decide ((stpOf d).kind = kd ∧ (stpOf d).which = u) := by
  have hk := stpOf_kd h
  by_cases he : d = twoF c u
  · have h0 : byteI d 0 = c := by rw [he, twoF_b0 _ _ (by omega)]
    have h1 : byteI d 1 = 117 + u := by rw [he, twoF_b1 _ _ (by omega)]
    have e : (d.toList == (twoF c u).toList) = true := by rw [he]; simp
    rw [e]
    generalize stpOf d = x at hk
    cases hk with
    | set v hv _ h1' => symm; simp; omega
    | clear v hv _ h1' => symm; simp; omega
    | _ => exfalso; omega
  · have e : (d.toList == (twoF c u).toList) = false := by
      refine beq_false_of_ne fun hh => he ?_
      rw [ByteArray.toList_eq, ByteArray.toList_eq] at hh
      apply ByteArray.ext
      exact Array.ext' hh
    rw [e]
    symm
    rw [decide_eq_false_iff_not]
    rintro ⟨h6, hw⟩
    apply he
    have hsz : ∀ (b : Int), byteI d 0 = b → (b = 33 ∨ b = 126) → d.size = 2 := fun b hb hbc => by rw [h.1, wid, if_pos (by omega)]
    generalize stpOf d = x at *
    cases hk with
    | set v hv h0 h1 =>
      simp only at hw h6
      have hvu : v = u := by omega
      have hc33 : c = 33 := by omega
      subst hvu hc33
      refine txt_eq (by rw [hsz _ h0 (.inl rfl)]; rfl) fun k hk => ?_
      rw [hsz _ h0 (.inl rfl)] at hk
      have : k = 0 ∨ k = 1 := by omega
      rcases this with rfl | rfl
      · rw [h0, twoF_b0 _ _ (by omega)]; rfl
      · rw [h1, twoF_b1 _ _ (by omega)]
    | clear v hv h0 h1 =>
      simp only at hw h6
      have hvu : v = u := by omega
      have hc33 : c = 126 := by omega
      subst hvu hc33
      refine txt_eq (by rw [hsz _ h0 (.inr rfl)]; rfl) fun k hk => ?_
      rw [hsz _ h0 (.inr rfl)] at hk
      have : k = 0 ∨ k = 1 := by omega
      rcases this with rfl | rfl
      · rw [h0, twoF_b0 _ _ (by omega)]; rfl
      · rw [h1, twoF_b1 _ _ (by omega)]
    | _ => simp at h6; omega
theorem ex_add (u : Nat) : (⟨#[33]⟩ : ByteArray) ++ oneF u = twoF 33 u := by
  apply ByteArray.ext
  simp [twoF, oneF]
theorem ti_add (u : Nat) : (⟨#[126]⟩ : ByteArray) ++ oneF u = twoF 126 u := by
  apply ByteArray.ext
  simp [twoF, oneF]
theorem byteI_ext1 {d : ByteArray} (hs : 2 ≤ d.size) (u : Nat) (h : byteI d 1 = 117 + u) (hu : u ≤ 100) : d.extract 1 2 = oneF u := by
  have h1 : (d.extract 1 2).size = 1 := by rw [ByteArray.size_extract]; omega
  refine txt_eq (by rw [h1]; rfl) fun k hk => ?_
  have hk0 : k = 0 := by omega
  subst hk0
  rw [byteI_extract d 1 2 0 hs, if_pos (by omega), h]
  rw [← byteI_in (show 0 < (oneF u).size by show 0 < 1; omega)]
  show (117 : Int) + u = ((UInt8.ofNat (117 + u)).toNat : Int)
  rw [UInt8.toNat_ofNat']; omega

/-- The last event below c that sets or clears flag u. -/
def flagL (log : List Ev) (u : Nat) : Nat → Int
  | 0 => -1
  | c + 1 => if (log[c]?.map fun v => decide (((stpOf v.txt).kind = 3 ∨ (stpOf v.txt).kind = 4) ∧ (stpOf v.txt).which = u)).getD false = true then c else flagL log u c

set_option maxRecDepth 100000 in
set_option maxHeartbeats 4000000 in
theorem flagged_any (p j : Nat) (W : Wd) (w : World) {gP cP gB cB gL cL gH cH gS cS : Nat} {aG : Option Addr} {cG : Nat} (h : WIn w p W gP cP gB cB gL cL gH cH gS cS aG cG) (hL : LogOk W) (b : Ev) (hb : W.log[j]? = some b) (u : Nat) (hu : u < 6) (hb5 : (stpOf b.txt).kind = 5 ∧ (stpOf b.txt).which = u) (hl : W.log.length ≤ 60) (y : Int) (hy : y = j) :
    Calls Try.prog 115 #[.pointer (some ⟨p, 0, none⟩), .int .i64 y] w fun e w' => e = .returned (.int .i64 (flagL W.log u j)) ∧ w' = w := by
  subst hy
  have hjl : j < W.log.length := (List.getElem?_eq_some_iff.1 hb).1
  obtain ⟨g, hg, hc⟩ := h.cG' (by intro e; rw [e] at hjl; simp at hjl)
  have fG := h.fG
  obtain ⟨_, _, b2, _⟩ := hc j b hb
  rw [Nat.mul_comm 4 j] at b2
  subst hg
  have ob := hL b (List.mem_of_getElem? hb)
  obtain ⟨hs3, hb1⟩ : b.txt.size = 3 ∧ byteI b.txt 1 = 117 + u := by
    have hk := stpOf_kd ob.dok
    have hsz := ob.dok.1
    generalize stpOf b.txt = x at *
    cases hk with
    | skip v q _ _ h0 h1 _ =>
      obtain ⟨_, hw⟩ := hb5
      simp only at hw
      refine ⟨by rw [hsz, h0]; rfl, by omega⟩
    | _ => simp at hb5
  have hex := byteI_ext1 (d := b.txt) (by omega) u hb1 (by omega)
  have j0 : (0 : Int) ≤ (j : Int) := by omega
  have jl : (j : Int) < (W.log.length : Int) := by omega
  have ha1 := ex_add u
  have ha2 := ti_add u
  have hos : (oneF u).size = 1 := rfl
  generalize hres : flagL W.log u j = res
  have HR : Hid (flagL W.log u j = res) := hres
  clear hres hb1 hb5
  go_enter Try.func115, Try.ntmps115
  go_wp2
  go_loopw [6] (fun x wr => ∃ c : Nat, c ≤ j ∧ x = .int .i64 ((c : Int) - 1) ∧ Hid (flagL W.log u c = res) ∧ wr = w) (fun x _ => (intOf x + 1).toNat)
  case atStart => exact ⟨j, Nat.le_refl _, rfl, HR, rfl⟩
  case round =>
    obtain ⟨c, hcj, rfl, HE, hw⟩ := hrel
    have hw2 := hw.symm
    clear hw
    subst hw2
    clear HR b2 hex
    cases c with
    | zero =>
      have hres : res = -1 := by have h := HE.out; rw [flagL] at h; exact h.symm
      subst hres
      go_wp2
      go_ret
      exact ⟨rfl, rfl⟩
    | succ i =>
      have hz : (((i + 1 : Nat) : Int) - 1) = (i : Int) := by omega
      rw [hz]
      obtain ⟨a, ha⟩ := get_some W.log i (by omega)
      obtain ⟨_, _, a2, _⟩ := hc i a ha
      rw [Nat.mul_comm 4 i] at a2
      have oa := (hL a (List.mem_of_getElem? ha)).dok
      have e3 := flag_eq oa 33 3 u (.inl ⟨rfl, rfl⟩) hu
      have e4 := flag_eq oa 126 4 u (.inr ⟨rfl, rfl⟩) hu
      have HE1 : Hid ((if (decide ((stpOf a.txt).kind = 3 ∧ (stpOf a.txt).which = u) || decide ((stpOf a.txt).kind = 4 ∧ (stpOf a.txt).which = u)) = true then (i : Int) else flagL W.log u i) = res) := by
        have h := HE.out
        rw [flagL, ha] at h
        rw [Hid, ← h]
        simp only [Option.map_some, Option.getD_some]
        congr 1
        simp only [Bool.or_eq_true, decide_eq_true_eq, eq_iff_iff]
        constructor
        · rintro (⟨h1, h2⟩ | ⟨h1, h2⟩)
          · exact ⟨.inl h1, h2⟩
          · exact ⟨.inr h1, h2⟩
        · rintro ⟨h1 | h1, h2⟩
          · exact .inl ⟨h1, h2⟩
          · exact .inr ⟨h1, h2⟩
      have e3' : (a.txt.toList == (twoF 33 u).toList) = decide ((stpOf a.txt).kind = 3 ∧ (stpOf a.txt).which = u) := e3
      have e4' : (a.txt.toList == (twoF 126 u).toList) = decide ((stpOf a.txt).kind = 4 ∧ (stpOf a.txt).which = u) := e4
      generalize decide ((stpOf a.txt).kind = 3 ∧ (stpOf a.txt).which = u) = d3 at *
      generalize decide ((stpOf a.txt).kind = 4 ∧ (stpOf a.txt).which = u) = d4 at *
      have i0 : (0 : Int) ≤ (i : Int) := by omega
      have il : (i : Int) < (W.log.length : Int) := by omega
      clear HE e3 e4 ha oa hc hL h
      cases d3 <;> cases d4
      case false.false =>
        have HE2 : Hid (flagL W.log u i = res) := by have h := HE1.out; rw [if_neg (by decide)] at h; exact h
        go_wp2
        go_roundw
        case rel => exact ⟨i, by omega, rfl, HE2, by first | rfl | trivial⟩
        case measure => (simp [intOf] <;> omega)
      all_goals
        have hres : res = i := by have h := HE1.out; rw [if_pos (by decide)] at h; exact h.symm
        subst hres
        clear HE1
        go_wp2
        go_ret
        exact ⟨rfl, rfl⟩
end Go.Proofs.Ytfdbnilopfnifaa
namespace Go.Proofs.Ytfdbnilopfnifaa
open Go.RowKit

/-! The event by which a lock is given back. -/
def oneG (u : Nat) : ByteArray := ⟨#[UInt8.ofNat (65 + u)]⟩
theorem give_ext (k : Nat) (h : k < 6) : (⟨#[65, 66, 67, 68, 69, 70]⟩ : ByteArray).extract k (k + 1) = oneG k := by
  have : k = 0 ∨ k = 1 ∨ k = 2 ∨ k = 3 ∨ k = 4 ∨ k = 5 := by omega
  rcases this with rfl | rfl | rfl | rfl | rfl | rfl <;> decide
theorem oneG_b0 (u : Nat) (h : u ≤ 100) : byteI (oneG u) 0 = 65 + u := by
  rw [← byteI_in (show 0 < (oneG u).size by show 0 < 1; omega)]
  show ((UInt8.ofNat (65 + u)).toNat : Int) = 65 + u
  rw [UInt8.toNat_ofNat']; omega
theorem give_eq {n : Nat} {d : ByteArray} (h : DOk n d) (u : Nat) (hu : u < 6) : (d.toList == (oneG u).toList) = decide ((stpOf d).kind = 2 ∧ (stpOf d).which = u) := by
  have hk := stpOf_kd h
  by_cases he : d = oneG u
  · have h0 : byteI d 0 = 65 + u := by rw [he, oneG_b0 _ (by omega)]
    have e : (d.toList == (oneG u).toList) = true := by rw [he]; simp
    rw [e]
    generalize stpOf d = x at hk
    cases hk with
    | give v hv _ => symm; simp; omega
    | _ => exfalso; omega
  · have e : (d.toList == (oneG u).toList) = false := by
      refine beq_false_of_ne fun hh => he ?_
      rw [ByteArray.toList_eq, ByteArray.toList_eq] at hh
      apply ByteArray.ext
      exact Array.ext' hh
    rw [e]
    symm
    rw [decide_eq_false_iff_not]
    rintro ⟨h6, hw⟩
    apply he
    have hsz := h.1
    generalize stpOf d = x at *
    cases hk with
    | give v hv h0 =>
      simp only at hw
      have hvu : v = u := by omega
      subst hvu
      have hs1 : d.size = 1 := by rw [hsz, wid, if_neg (by omega), if_neg (by omega)]
      refine txt_eq (by rw [hs1]; rfl) fun k hk => ?_
      have hk0 : k = 0 := by omega
      subst hk0
      rw [h0, oneG_b0 _ (by omega)]
    | _ => simp at h6

/-- The first event from g on by which thread t gives lock u back. -/
def givenL (log : List Ev) (t : Int) (u : Nat) (g : Nat) : Int :=
  if g < log.length then
    if (log[g]?.map fun v => decide (v.thread = t) && decide ((stpOf v.txt).kind = 2 ∧ (stpOf v.txt).which = u)).getD false = true then g else givenL log t u (g + 1)
  else -1
termination_by log.length - g

set_option maxRecDepth 100000 in
set_option maxHeartbeats 4000000 in
theorem given_any (p i : Nat) (W : Wd) (w : World) {gP cP gB cB gL cL gH cH gS cS : Nat} {aG : Option Addr} {cG : Nat} (h : WIn w p W gP cP gB cB gL cL gH cH gS cS aG cG) (hL : LogOk W) (b : Ev) (hb : W.log[i]? = some b) (u : Nat) (hu : u < 6) (hb1 : (stpOf b.txt).kind = 1 ∧ (stpOf b.txt).which = u) (hl : W.log.length ≤ 60) (y : Int) (hy : y = i) :
    Calls Try.prog 116 #[.pointer (some ⟨p, 0, none⟩), .int .i64 y] w fun e w' => e = .returned (.int .i64 (givenL W.log b.thread u (i + 1))) ∧ Below w.heap.size w w' := by
  subst hy
  have hil : i < W.log.length := (List.getElem?_eq_some_iff.1 hb).1
  obtain ⟨g, hg, hc⟩ := h.cG' (by intro e; rw [e] at hil; simp at hil)
  have fG := h.fG
  obtain ⟨b0, _, b2, _⟩ := hc i b hb
  rw [Nat.mul_comm 4 i] at b0 b2
  subst hg
  have ob := hL b (List.mem_of_getElem? hb)
  have hd : byteI b.txt 0 = 97 + u := by
    have hk := stpOf_kd ob.dok
    generalize stpOf b.txt = x at *
    cases hk with
    | take v _ h0 =>
      obtain ⟨_, hw⟩ := hb1
      simp only at hw
      omega
    | _ => simp at hb1
  have hd0 : 0 < b.txt.size := ob.dok.size
  have hbi : (b.txt[0].toNat : Int) = 97 + u := by rw [byteI_in hd0]; exact hd
  have e1 : atI ⟨#[97, 98, 99, 100, 101, 102]⟩ (97 + u) = u := by rw [atI_lock (by omega) (by omega), atR_yes (by omega) (by omega)]; omega
  have hge := give_ext u hu
  have i0 : (0 : Int) ≤ (i : Int) := by omega
  have il : (i : Int) < (W.log.length : Int) := by omega
  have u0 : (0 : Int) ≤ (u : Int) := by omega
  have u6 : (u : Int) + 1 ≤ 6 := by omega
  have u6' : u + 1 ≤ 6 := by omega
  generalize hres : givenL W.log b.thread u (i + 1) = res
  have HR : Hid (givenL W.log b.thread u (i + 1) = res) := hres
  have HBT : Hid (W.log[i]? = some b) := hb
  clear hres hb1 hd hb ob
  go_enter Try.func116, Try.ntmps116
  go_wp2_with (go_at_call 77; refine (at_n _ _ _ (by omega) (by omega) (by decide)).mono ?_; rintro e w2 ⟨rfl, hw⟩; have hw2 := hw.symm; clear hw; subst hw2)
  go_loopw [6] (fun x wr => ∃ k : Nat, i + 1 ≤ k ∧ k ≤ W.log.length ∧ x = .int .i64 (k : Int) ∧ Hid (givenL W.log b.thread u k = res) ∧ Below w.heap.size w wr) (fun x _ => W.log.length - (intOf x).toNat)
  case atStart => exact ⟨i + 1, Nat.le_refl _, by omega, rfl, HR, Below.refl _ _⟩
  case round =>
    obtain ⟨k, hik, hkl, rfl, HE, hBr⟩ := hrel
    have fG' := cell_later hBr fG
    have b0' := cell_later hBr b0
    clear HR b2 hbi e1
    by_cases hkn : k < W.log.length
    · obtain ⟨a, ha⟩ := get_some W.log k hkn
      obtain ⟨a0, _, a2, _⟩ := hc k a ha
      rw [Nat.mul_comm 4 k] at a0 a2
      have a0' := cell_later hBr a0
      have a2' := cell_later hBr a2
      have oa := (hL a (List.mem_of_getElem? ha)).dok
      have e3 := give_eq oa u hu
      have HE1 : Hid ((if (decide (a.thread = b.thread) && decide ((stpOf a.txt).kind = 2 ∧ (stpOf a.txt).which = u)) = true then (k : Int) else givenL W.log b.thread u (k + 1)) = res) := by
        have h := HE.out
        rw [givenL, if_pos hkn, ha] at h
        exact h
      generalize decide ((stpOf a.txt).kind = 2 ∧ (stpOf a.txt).which = u) = d2 at *
      have ebt : (a.thread == b.thread) = decide (a.thread = b.thread) := by by_cases h : a.thread = b.thread <;> simp [h]
      generalize a.thread = at' at *
      generalize b.thread = bt' at *
      generalize decide (at' = bt') = dt at *
      have k0 : (0 : Int) ≤ (k : Int) := by omega
      have kl : (k : Int) < (W.log.length : Int) := by omega
      clear HE ha oa hc hL h a0 a2 b0 fG
      cases dt with
      | false =>
        have HE2 : Hid (givenL W.log bt' u (k + 1) = res) := by have h := HE1.out; rw [if_neg (by simp)] at h; exact h
        go_wp2
        go_quiet (fail)
        go_wp2
        go_roundw
        case rel => exact ⟨k + 1, by omega, by omega, rfl, HE2, hBr.trans ((below_drewN _ _).mono hBr.size)⟩
        case measure => (simp [intOf] <;> omega)
      | true =>
        cases d2 with
        | false =>
          have HE2 : Hid (givenL W.log bt' u (k + 1) = res) := by have h := HE1.out; rw [if_neg (by simp)] at h; exact h
          go_wp2
          go_quiet (fail)
          go_wp2
          go_roundw
          case rel => exact ⟨k + 1, by omega, by omega, rfl, HE2, hBr.trans ((below_drewN _ _).mono hBr.size)⟩
          case measure => (simp [intOf] <;> omega)
        | true =>
          have hres : res = k := by have h := HE1.out; rw [if_pos (by simp)] at h; exact h.symm
          subst hres
          clear HE1
          go_wp2
          go_quiet (fail)
          go_wp2
          go_ret
          exact ⟨rfl, hBr.trans ((below_drewN _ _).mono hBr.size)⟩
    · have hres : res = -1 := by have h := HE.out; rw [givenL, if_neg hkn] at h; exact h.symm
      subst hres
      have kl : ¬ (k : Int) < (W.log.length : Int) := by omega
      go_wp2
      go_ret
      exact ⟨rfl, hBr⟩
end Go.Proofs.Ytfdbnilopfnifaa
