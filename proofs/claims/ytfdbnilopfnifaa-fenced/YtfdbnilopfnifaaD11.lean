import Derived.Test.YtfdbnilopfnifaaD10
namespace Go.Proofs.Ytfdbnilopfnifaa
open Go.RowKit
attribute [local go_sem ↓] Go.wp_at_zero Go.wp_at_succ

theorem digS_one (t : Nat) : (⟨#[UInt8.ofNat (48 + t)]⟩ : ByteArray) = nameS t := rfl

set_option maxHeartbeats 8000000 in
set_option maxRecDepth 100000 in
theorem refResume_ok (s sch picks : ByteArray) (w : World) (h : (ckP s).1 = 0) (hs : s.size ≤ 160) (hsch : sch.size ≤ maxLen) (hpk : picks.size ≤ maxLen) (I0 : (beginW (thLoop s 0 0 [])).Inv) (W0 : Wd) (hW : toLoop sch (beginW (thLoop s 0 0 [])) 0 = some W0) :
    Calls Try.prog 17 #[.string s, .string sch, .string picks] w fun e w' => e = .returned (.tuple #[.string (digS (resumeL picks 61 W0 []).1), .int .i64 (resumeL picks 61 W0 []).2, .int .i64 0]) ∧ Below w.heap.size w w' := by
  have hwd := fun w => world_ok s sch w h hs hsch I0 W0 hW
  unfold maxLen at hpk
  clear h hs hsch I0 hW
  go_enter Try.func17, Try.ntmps17
  go_wp2_with (go_at_call 49; refine (hwd _).mono ?_; rintro e w1 ⟨p, rfl, hB1, hR1, I1⟩; clear hwd)
  go_loopw [11] (fun o wr => ∃ (W : Wd) (out : List Nat), o = .string (digS out) ∧ Hid (resumeL picks 61 W0 [] = resumeL picks (61 - out.length) W out) ∧ out.length ≤ W.log.length ∧ (∀ t ∈ out, t ≤ 100) ∧ W.Inv ∧ Below w.heap.size w wr ∧ RepW wr w.heap.size p W) (fun o _ => 61 - strLen o)
  case atStart => exact ⟨W0, [], rfl, rfl, Nat.zero_le _, by simp, I1, hB1, hR1⟩
  case round =>
    obtain ⟨W, out, rfl, hh, hol, hout, I, hBr, hR⟩ := hrel
    clear hB1 hR1 I1
    have h60 := I.small
    have h5 := I.good.n5
    have hh2 : Hid (resumeL picks 61 W0 [] = resumeL picks ((60 - out.length) + 1) W out) := by
      rw [Hid, hh.out]; congr 1; omega
    clear hh
    have hods := digS_size out
    go_wp2
    go_loopw [12, 13, 14] (fun m a i wx => ∃ (t : Nat) (l : List Nat) (al : Bool), t ≤ W.prog.length ∧ m = .string (digS l) ∧ a = .bool al ∧ i = .int .i64 t ∧ l.length ≤ t ∧ Hid (mayLoop W 0 [] false = mayLoop W t l al) ∧ Below w.heap.size w wx ∧ RepW wx w.heap.size p W) (fun _ _ i _ => W.prog.length - (intOf i).toNat)
    case atStart => exact ⟨0, [], false, Nat.zero_le _, rfl, rfl, rfl, Nat.zero_le _, rfl, hBr, hR⟩
    case round =>
      obtain ⟨t, l, al, ht, rfl, rfl, rfl, hlt, hm, hBx, hRx⟩ := hrel
      clear hBr hR
      have hlds := digS_size l
      obtain ⟨gP, cP, gB, cB, gL, cL, gH, cH, gS, cS, aG, cG, hWx⟩ := hRx.wIn I.good.ok
      have fP := hWx.fP
      clear hWx
      by_cases htn : t < W.prog.length
      · have hst := State_rep _ p t W wr hRx I htn t rfl
        have hm2 : Hid (mayLoop W 0 [] false = mayLoop W (t + 1) (if stateOf W t = 1 ∨ stateOf W t = 5 then l ++ [t] else l) (al || decide (stateOf W t = 2) || decide (stateOf W t = 3))) := by
          rw [Hid, hm.out, mayLoop, if_pos htn]
        have hnm := fun wx => name_any t wx (by omega)
        have hsn := digS_snoc l t
        have hns := nameS_size t
        clear hm
        generalize stateOf W t = st at hst hm2
        have hc : st = 1 ∨ st = 5 ∨ st = 2 ∨ st = 3 ∨ (st ≠ 1 ∧ st ≠ 5 ∧ st ≠ 2 ∧ st ≠ 3) := by omega
        rcases hc with rfl | rfl | rfl | rfl | ⟨q1, q5, q2, q3⟩
        · rw [if_pos (.inl rfl)] at hm2
          cases al
          all_goals
            go_wp2_with (first
              | (go_at_call 50; refine hst.mono ?_; rintro e w3 ⟨rfl, hB3⟩; have hR3 := hRx.below hB3; have hBx3 := hBx.trans (hB3.mono hBx.size))
              | (go_at_call 51; refine (hnm _).mono ?_; rintro e w4 ⟨rfl, hB4⟩))
            go_roundw
            case rel => exact ⟨t + 1, l ++ [t], _, by omega, rfl, rfl, by go_num, by simp; omega, hm2, hBx3.trans (hB4.mono hBx3.size), hR3.below hB4⟩
            case measure => simp [intOf]; omega
        · rw [if_pos (.inr rfl)] at hm2
          cases al
          all_goals
            go_wp2_with (first
              | (go_at_call 50; refine hst.mono ?_; rintro e w3 ⟨rfl, hB3⟩; have hR3 := hRx.below hB3; have hBx3 := hBx.trans (hB3.mono hBx.size))
              | (go_at_call 51; refine (hnm _).mono ?_; rintro e w4 ⟨rfl, hB4⟩))
            go_roundw
            case rel => exact ⟨t + 1, l ++ [t], _, by omega, rfl, rfl, by go_num, by simp; omega, hm2, hBx3.trans (hB4.mono hBx3.size), hR3.below hB4⟩
            case measure => simp [intOf]; omega
        · rw [if_neg (by omega)] at hm2
          cases al
          all_goals
            go_wp2_with (first
              | (go_at_call 50; refine hst.mono ?_; rintro e w3 ⟨rfl, hB3⟩; have hR3 := hRx.below hB3; have hBx3 := hBx.trans (hB3.mono hBx.size))
              | (go_at_call 51; refine (hnm _).mono ?_; rintro e w4 ⟨rfl, hB4⟩))
            go_roundw
            case rel => exact ⟨t + 1, l, _, by omega, rfl, rfl, by go_num, by omega, hm2, hBx3, hR3⟩
            case measure => simp [intOf]; omega
        · rw [if_neg (by omega)] at hm2
          cases al
          all_goals
            go_wp2_with (first
              | (go_at_call 50; refine hst.mono ?_; rintro e w3 ⟨rfl, hB3⟩; have hR3 := hRx.below hB3; have hBx3 := hBx.trans (hB3.mono hBx.size))
              | (go_at_call 51; refine (hnm _).mono ?_; rintro e w4 ⟨rfl, hB4⟩))
            go_roundw
            case rel => exact ⟨t + 1, l, _, by omega, rfl, rfl, by go_num, by omega, hm2, hBx3, hR3⟩
            case measure => simp [intOf]; omega
        · rw [if_neg (by omega), decide_eq_false q2, decide_eq_false q3] at hm2
          have b1 : (st == 1) = false := by simpa using q1
          have b5 : (st == 5) = false := by simpa using q5
          have b2 : (st == 2) = false := by simpa using q2
          have b3 : (st == 3) = false := by simpa using q3
          clear q1 q5 q2 q3
          cases al
          all_goals
            go_wp2_with (first
              | (go_at_call 50; refine hst.mono ?_; rintro e w3 ⟨rfl, hB3⟩; have hR3 := hRx.below hB3; have hBx3 := hBx.trans (hB3.mono hBx.size))
              | (go_at_call 51; refine (hnm _).mono ?_; rintro e w4 ⟨rfl, hB4⟩))
            go_roundw
            case rel => exact ⟨t + 1, l, _, by omega, rfl, rfl, by go_num, by omega, hm2, hBx3, hR3⟩
            case measure => simp [intOf]; omega
      · have hml : mayLoop W 0 [] false = (l, al) := by rw [hm.out, mayLoop, if_neg htn]
        have hmem := mayLoop_mem W _ 0 [] false rfl (by simp)
        rw [hml] at hmem
        have hres : resumeL picks 61 W0 [] = if l = [] then (out, if al = true then 2 else 1) else if stateOf W (l.getD ((byteI picks out.length).toNat % l.length) 0) = 5 then (out, 3)
            else resumeL picks (60 - out.length) (moveT W (l.getD ((byteI picks out.length).toNat % l.length) 0)) (out ++ [l.getD ((byteI picks out.length).toNat % l.length) 0]) := by
          rw [hh2.out, resumeL, hml]
        have hemp := digS_empty l
        clear hm hml hh2
        by_cases hl0 : l = []
        · have HR : Hid (resumeL picks 61 W0 [] = (out, if al = true then 2 else 1)) := by rw [Hid, hres, if_pos hl0]
          subst hl0
          have hemp' : (digS []).toList.isEmpty = true := by rw [digS_empty]; rfl
          clear hres hemp hmem
          cases al
          all_goals
            go_wp2
            go_ret3
            exact ⟨by rw [HR.out]; rfl, hBx⟩
        · have hemp' : (digS l).toList.isEmpty = false := by rw [hemp]; cases l with | nil => exact absurd rfl hl0 | cons _ _ => rfl
          rw [if_neg hl0] at hres
          have hlp : 0 < l.length := by cases l with | nil => exact absurd rfl hl0 | cons _ _ => simp
          obtain ⟨k, hk⟩ : ∃ k, k = (byteI picks out.length).toNat % l.length := ⟨_, rfl⟩
          have hkl : k < l.length := by rw [hk]; exact Nat.mod_lt _ hlp
          rw [← hk] at hres
          have hgd : l.getD k 0 = l[k] := by simp [hkl]
          rw [hgd] at hres
          have hx := hmem l[k] (by simp)
          have hbyte := digS_get l k (by rw [hlds]; exact hkl) (fun t ht => by have := hmem t ht; omega)
          generalize l[k] = tt at hx hbyte hres
          obtain ⟨htt, hst2⟩ := hx
          have hst := fun wx i hi (hx : RepW wx w.heap.size p W) => State_rep _ p tt W wx hx I htt i hi
          have HRES : Hid (resumeL picks 61 W0 [] = if stateOf W tt = 5 then (out, 3) else resumeL picks (60 - out.length) (moveT W tt) (out ++ [tt])) := hres
          clear hres hemp hmem hgd
          have hconv := fun wx => conv1 wx (48 + tt)
          have hcn : (⟨#[UInt8.ofNat ((48 : Int) + tt).toNat]⟩ : ByteArray) = nameS tt := by rw [nameS]; congr 3
          rw [hcn] at hconv
          have hsn := digS_snoc out tt
          have hns := nameS_size tt
          clear hcn
          have hb0 := byteI_lo picks out.length
          have hb9 := byteI_hi picks out.length
          by_cases hpo : out.length < picks.size
          · have hbk := byteI_in hpo
            have hmod : byteI picks out.length % (l.length : Int) = (k : Int) := by
              rw [hk]; simp [Int.natCast_emod, Int.toNat_of_nonneg hb0]
            clear hk
            by_cases h5' : stateOf W tt = 5
            · have HR2 : Hid (resumeL picks 61 W0 [] = (out, 3)) := by rw [Hid, HRES.out, if_pos h5']
              rw [h5'] at hst
              clear HRES
              go_wp2_with (go_at_call 50; refine (hst _ _ (by omega) hRx).mono ?_; rintro e w3 ⟨rfl, hB3⟩)
              go_ret3
              exact ⟨by rw [HR2.out]; rfl, hBx.trans (hB3.mono hBx.size)⟩
            · have h1' : stateOf W tt = 1 := by omega
              have HR2 : Hid (resumeL picks 61 W0 [] = resumeL picks (61 - (out ++ [tt]).length) (moveT W tt) (out ++ [tt])) := by
                rw [Hid, HRES.out, if_neg h5']; congr 1; simp
              rw [h1'] at hst
              have hmv := fun wx i hi (hb : w.heap.size ≤ wx.heap.size) (hx : RepW wx w.heap.size p W) => move_rep w.heap.size p tt W wx hx I htt h1' hb i hi
              have I2 := moveT_inv I htt h1'
              have hlg := moveT_log (W := W) tt
              clear HRES
              go_wp2_with (first
                | (go_at_call 50; refine (hst _ _ (by omega) hRx).mono ?_; rintro e w3 ⟨rfl, hB3⟩)
                | (go_at_call 52; refine (hmv _ _ (by omega) (Nat.le_trans hBx.size hB3.size) (hRx.below hB3)).mono ?_; rintro e w4 ⟨rfl, hB4, hR4⟩))
              go_roundw
              case rel =>
                refine ⟨moveT W tt, out ++ [tt], rfl, HR2, by rw [hlg]; simp; omega, ?_, I2, ?_, ?_⟩
                · intro x hx
                  rcases List.mem_append.1 hx with hx | hx
                  · exact hout x hx
                  · simp at hx; omega
                · exact ((hBx.trans (hB3.mono hBx.size)).trans hB4).alloc (Nat.le_trans (Nat.le_trans hBx.size hB3.size) hB4.size) _
                · exact hR4.below ((Below.refl _ _).alloc (Nat.le_refl _) _)
              case measure => simp [strLen, digS_size]; omega
          · have hbz : byteI picks out.length = 0 := by rw [byteI, dif_neg hpo]
            have hk0 : k = 0 := by rw [hk, hbz]; simp
            subst hk0
            clear hk hbz
            by_cases h5' : stateOf W tt = 5
            · have HR2 : Hid (resumeL picks 61 W0 [] = (out, 3)) := by rw [Hid, HRES.out, if_pos h5']
              rw [h5'] at hst
              clear HRES
              go_wp2_with (go_at_call 50; refine (hst _ _ (by omega) hRx).mono ?_; rintro e w3 ⟨rfl, hB3⟩)
              go_ret3
              exact ⟨by rw [HR2.out]; rfl, hBx.trans (hB3.mono hBx.size)⟩
            · have h1' : stateOf W tt = 1 := by omega
              have HR2 : Hid (resumeL picks 61 W0 [] = resumeL picks (61 - (out ++ [tt]).length) (moveT W tt) (out ++ [tt])) := by
                rw [Hid, HRES.out, if_neg h5']; congr 1; simp
              rw [h1'] at hst
              have hmv := fun wx i hi (hb : w.heap.size ≤ wx.heap.size) (hx : RepW wx w.heap.size p W) => move_rep w.heap.size p tt W wx hx I htt h1' hb i hi
              have I2 := moveT_inv I htt h1'
              have hlg := moveT_log (W := W) tt
              clear HRES
              go_wp2_with (first
                | (go_at_call 50; refine (hst _ _ (by omega) hRx).mono ?_; rintro e w3 ⟨rfl, hB3⟩)
                | (go_at_call 52; refine (hmv _ _ (by omega) (Nat.le_trans hBx.size hB3.size) (hRx.below hB3)).mono ?_; rintro e w4 ⟨rfl, hB4, hR4⟩))
              go_roundw
              case rel =>
                refine ⟨moveT W tt, out ++ [tt], rfl, HR2, by rw [hlg]; simp; omega, ?_, I2, ?_, ?_⟩
                · intro x hx
                  rcases List.mem_append.1 hx with hx | hx
                  · exact hout x hx
                  · simp at hx; omega
                · exact ((hBx.trans (hB3.mono hBx.size)).trans hB4).alloc (Nat.le_trans (Nat.le_trans hBx.size hB3.size) hB4.size) _
                · exact hR4.below ((Below.refl _ _).alloc (Nat.le_refl _) _)
              case measure => simp [strLen, digS_size]; omega

theorem refResume_err (s sch picks : ByteArray) (w : World) (h : (ckP s).1 ≠ 0) :
    Calls Try.prog 17 #[.string s, .string sch, .string picks] w fun e w' => e = .returned (.tuple #[.string ⟨#[]⟩, .int .i64 0, .int .i64 (ckP s).1]) ∧ Below w.heap.size w w' := by
  have hwd := fun w => world_err s sch w h
  generalize (ckP s).1 = a at *
  have ha : (a != 0) = true := by simpa using h
  go_enter Try.func17, Try.ntmps17
  go_wp2_with (go_at_call 49; refine (hwd _).mono ?_; rintro e w1 ⟨rfl, hB1⟩)
  go_ret3
  exact ⟨rfl, hB1⟩
theorem refResume_none (s sch picks : ByteArray) (w : World) (h : (ckP s).1 = 0) (hs : s.size ≤ 160) (hsch : sch.size ≤ maxLen) (I0 : (beginW (thLoop s 0 0 [])).Inv) (hW : toLoop sch (beginW (thLoop s 0 0 [])) 0 = none) :
    Calls Try.prog 17 #[.string s, .string sch, .string picks] w fun e w' => e = .returned (.tuple #[.string ⟨#[]⟩, .int .i64 0, .int .i64 5]) ∧ Below w.heap.size w w' := by
  have hwd := fun w => world_none s sch w h hs hsch I0 hW
  go_enter Try.func17, Try.ntmps17
  go_wp2_with (go_at_call 49; refine (hwd _).mono ?_; rintro e w1 ⟨rfl, hB1⟩)
  go_ret3
  exact ⟨rfl, hB1⟩
end Go.Proofs.Ytfdbnilopfnifaa
