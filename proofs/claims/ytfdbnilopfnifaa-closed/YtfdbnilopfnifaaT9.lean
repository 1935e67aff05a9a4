import Derived.Test.YtfdbnilopfnifaaE17
import Derived.Test.YtfdbnilopfnifaaR3
import Derived.Test.YtfdbnilopfnifaaE15
namespace Go.Proofs.Ytfdbnilopfnifaa
open Go.RowKit
attribute [local go_sem ↓] loadS_fold storeS_fold zeroS_fold

theorem flat_mv : ∀ (l : List Ev) (j : Nat) (e : Ev), l[j]? = some e → ∀ i v, (mvE e).cells.toList[i]? = some v → (mvCells l)[j * 6 + i]? = some v
  | [], _, _, h => by simp at h
  | a :: l, 0, e, h => by
    simp at h; subst h
    intro i v hv
    rw [Nat.zero_mul, Nat.zero_add, mvCells, List.flatMap_cons, List.getElem?_append_left (List.getElem?_eq_some_iff.1 hv).1]
    exact hv
  | a :: l, j + 1, e, h => by
    intro i v hv
    have := flat_mv l j e (by simpa using h) i v hv
    have h6 : (mvE a).cells.toList.length = 6 := rfl
    rw [mvCells, List.flatMap_cons, List.getElem?_append_right (by rw [h6]; omega), h6, show (j + 1) * 6 + i - 6 = j * 6 + i by omega]
    exact this
theorem mvsAt_of_row {w : World} {B g cap : Nat} {l : List Ev} (h : w.ownsRow B 142 6 (.slice (some ⟨g, 0, none⟩) l.length cap) l.length (mvCells l)) : MvsAt w g (l.map mvE) := by
  intro j a ha i v hv
  rw [List.getElem?_map] at ha
  cases he : l[j]? with
  | none => rw [he] at ha; simp at ha
  | some e =>
    rw [he] at ha
    simp only [Option.map_some, Option.some.injEq] at ha
    subst ha
    have hj := (List.getElem?_eq_some_iff.1 he).1
    have hi : i < 6 := (List.getElem?_eq_some_iff.1 hv).1
    rw [h.cellAt (j * 6 + i) (by omega)]
    exact flat_mv l j e he i v hv
theorem toLoop_log (sch : ByteArray) : ∀ (n k : Nat) (W0 W : Wd), sch.size - k = n → toLoop sch W0 k = some W → W.log.length = W0.log.length + n := by
  intro n
  induction n with
  | zero =>
    intro k W0 W hn h
    rw [toLoop, if_neg (by omega)] at h
    cases h; rfl
  | succ n ih =>
    intro k W0 W hn h
    rw [toLoop, if_pos (by omega)] at h
    split at h
    · have := ih (k + 1) _ W (by omega) h
      rw [moveT_log] at this
      omega
    · cases h
theorem toLoop_long (sch : ByteArray) (W0 : Wd) (I : W0.Inv) (h : 60 < sch.size) : toLoop sch W0 0 = none := by
  cases hW : toLoop sch W0 0 with
  | none => rfl
  | some W =>
    have h1 := toLoop_log sch _ 0 W0 W rfl hW
    have h2 := (toLoop_inv sch _ 0 W0 W rfl I hW).1.small
    omega
theorem moveT_evAt (W : Wd) (t : Nat) : (moveT W t).log = W.log ++ [evAt W t] := moveT_logE t
theorem grownBy_setRow (w : World) (g : Nat) (c : Array Value) : w.grownBy (w.setRow g c) (some g) :=
  ⟨by simp, by simp, by simp, by simp, fun k _ hk => setRow_other w g k c (fun e => hk (by rw [e]))⟩

/-- What trace.Follow answers. -/
def FolP (n : Nat) (w' : World) (e : Ending) : Option Wd → Prop
  | none => e = .returned (.tuple #[.agg #[.slice none 0 0, .slice none 0 0], .bool false])
  | some W => ∃ g c g' c', e = .returned (.tuple #[.agg #[.slice (some ⟨g, 0, none⟩) W.log.length c, .slice (some ⟨g', 0, none⟩) (wantsE W W.prog.length).length c'], .bool true]) ∧ MvsAt w' g (W.log.map mvE) ∧ MvsAt w' g' ((wantsE W W.prog.length).map mvE) ∧ n ≤ g ∧ n ≤ g'

set_option maxRecDepth 100000 in
set_option maxHeartbeats 4000000 in
theorem FollowT_any (V : Value) (W0 : Wd) (I0 : W0.Inv) (hl0 : W0.log = []) (hF0 : firstM = msOf W0) (sch : ByteArray) (hs : sch.size ≤ maxLen) (w : World) (B : Nat) (hp : ProgIn w B V (progL W0)) :
    Calls Try.prog 89 #[.agg #[V], .string sch] w fun e w' => FolP w.heap.size w' e (toLoop sch W0 0) ∧ Below w.heap.size w w' := by
  unfold maxLen at hs
  have hr1 : ((w.alloc (.cells #[V] 72)).alloc (.cells #[.slice none 0 0, .slice none 0 0] 104)).heap[w.heap.size + 1]? = some (.cells #[.slice none 0 0, .slice none 0 0] 104) := heap_alloc2_new _ _ _
  have hB0 : Below w.heap.size w ((w.alloc (.cells #[V] 72)).alloc (.cells #[.slice none 0 0, .slice none 0 0] 104)) := (two_new (Below.refl _ _)).2.2.1
  by_cases h60 : 60 < sch.size
  · rw [toLoop_long sch W0 I0 h60]
    have h60' : (60 : Int) < (sch.size : Int) := by omega
    have q0 : ((w.alloc (.cells #[V] 72)).alloc (.cells #[.slice none 0 0, .slice none 0 0] 104)).cell? ⟨w.heap.size + 1, 0, none⟩ = some (.slice none 0 0) := cellB hr1 rfl
    have q1 : ((w.alloc (.cells #[V] 72)).alloc (.cells #[.slice none 0 0, .slice none 0 0] 104)).cell? ⟨w.heap.size + 1, 1, none⟩ = some (.slice none 0 0) := cellB hr1 rfl
    have z0 := frozen_of_row _ _ 0 _ _ hr1
    have z1 := frozen_of_row _ _ 1 _ _ hr1
    go_enter Try.func89, Try.ntmps89
    go_wp2
    exact bodyPost_ret (v := .tuple #[.agg #[.slice none 0 0, .slice none 0 0], .bool false]) (by simp [results, Try.results89, go_sem, q0, q1]) rfl ⟨rfl, hB0⟩
  · have h60' : ¬ (60 : Int) < (sch.size : Int) := by omega
    have hF := fun w => First_any w
    generalize hres : toLoop sch W0 0 = res
    have HR : Hid (toLoop sch W0 0 = res) := hres
    clear hres
    have HP : Hid (ProgIn w B V (progL W0)) := hp
    have HI : Hid (W0.Inv) := I0
    have ok0 : firstM.Ok := firstK_ok _ _ (by omega)
    have HF0 : Hid (firstM = msOf W0) := hF0
    clear hF0
    have hrow0 := World.ownsRow_lit ((w.alloc (.cells #[V] 72)).alloc (.cells #[.slice none 0 0, .slice none 0 0] 104)) (base := w.heap.size + 2) (e := 142) (size := 6) #[] 0 (by simp) (Nat.zero_le _) rfl
    have hB1 := hB0.alloc hB0.size (.cells #[] 142)
    have hr2 := heap_alloc_old ((w.alloc (.cells #[V] 72)).alloc (.cells #[.slice none 0 0, .slice none 0 0] 104)) (.cells #[] 142) (Array.getElem?_eq_some_iff.1 hr1).1
    rw [hr1] at hr2
    have p00 := cell_later ((Below.refl _ _).alloc (Nat.le_refl _) (.cells #[] 142)) (cellB (heap_alloc2_old w (.cells #[V] 72) (.cells #[.slice none 0 0, .slice none 0 0] 104)) (j := 0) (v := V) rfl)
    have hs3 : (((w.alloc (.cells #[V] 72)).alloc (.cells #[.slice none 0 0, .slice none 0 0] 104)).alloc (.cells #[] 142)).heap.size = w.heap.size + 3 := by simp
    clear hp I0 hr1 hB0
    go_enter Try.func89, Try.ntmps89
    go_wp2_with (first | (go_at_call 105; refine (hF _).mono ?_; rintro e w1 ⟨rfl, hb⟩; have hstn := storeS_run (s := firstM) (heap_alloc_new w1 (.cells zeroS 95)) rfl ok0))
    have hbN := Below.setRow (hb.alloc hb.size (.cells zeroS 95)) hb.size firstM.cells
    have hsN : StIn ((w1.alloc (.cells zeroS 95)).setRow w1.heap.size firstM.cells) w1.heap.size firstM := StIn.setRow (heap_alloc_new w1 _) ok0
    have hlt1 : w.heap.size + 3 ≤ w1.heap.size := by have := hb.size; rw [hs3] at this; exact this
    go_loopw [6, 8] (fun v i wr => ∃ (k : Nat) (W : Wd) (g cap : Nat), k ≤ sch.size ∧ i = .int .i64 k ∧ v = .slice (some ⟨g, 0, none⟩) W.log.length cap ∧ Hid (toLoop sch W k = res) ∧ W.log.length = k ∧ W.Inv ∧ progL W = progL W0 ∧ wr.ownsRow (w.heap.size + 2) 142 6 (.slice (some ⟨g, 0, none⟩) W.log.length cap) W.log.length (mvCells W.log) ∧ g ≠ w1.heap.size ∧ StIn wr w1.heap.size (msOf W) ∧ wr.cell? ⟨w.heap.size, 0, none⟩ = some V ∧ wr.heap[w.heap.size + 1]? = some (.cells #[.slice none 0 0, .slice none 0 0] 104 (0, 0)) ∧ Below w.heap.size w wr) (fun _ i _ => sch.size - (intOf i).toNat)
    case atStart =>
      refine ⟨0, W0, w.heap.size + 2, 0, by omega, rfl, by rw [hl0]; rfl, HR, by rw [hl0]; rfl, HI.out, rfl, ?_, by omega, by rw [← HF0.out]; exact hsN, cell_later hbN p00, (hbN.block _ (Array.getElem?_eq_some_iff.1 hr2).1).trans hr2, hB1.trans (hbN.mono hB1.size)⟩
      rw [hl0]
      have := hrow0.kept (grownBy_of_below hbN) (.inr (by simp [Value.ownBlock]))
      simpa [mvCells] using this
    case round =>
      obtain ⟨k, W, g, cap, hk, rfl, rfl, HE, hlk, I, hPL, hown, hne, hsr, p0, r1, hBr⟩ := hrel
      have HPL : Hid (progL W = progL W0) := hPL
      have HLK : Hid (W.log.length = k) := hlk
      have hlk60 : W.log.length ≤ 60 := I.small
      clear hlk hPL hstn hF HR hb hbN hsN hrow0 hB1 hr2 p00 hs3
      have ok := hsr.ok
      have h5 := I.good.n5
      have hpr : ProgIn wr B V (progL W) := by rw [HPL.out]; exact HP.out.below hBr
      have hgl := hown.lt g rfl
      have hld := hsr.loadS
      have hsl := hsr.lt
      have hrl := (Array.getElem?_eq_some_iff.1 r1).1
      by_cases hke : k < sch.size
      · have hb8 : sch[k].toNat < 256 := UInt8.toNat_lt sch[k]
        have hb0 : (0 : Int) ≤ (sch[k].toNat : Int) := Int.natCast_nonneg _
        have k0 : (0 : Int) ≤ (k : Int) := by omega
        have kl : (k : Int) < (sch.size : Int) := by omega
        have hby : (sch[k].toNat : Int) = byteI sch k := byteI_in hke
        have hM := fun w' hw => Move_any V (progL W) (msOf W) ok w' B (hpr.below (w' := w') hw) (progL_po I.good) ((sch[k].toNat : Int) - 48)
        have hT := HE.out
        rw [toLoop, if_pos hke] at hT
        by_cases hc : 48 ≤ byteI sch k ∧ byteI sch k < 48 + W.prog.length ∧ stateOf W (byteI sch k - 48).toNat = 1
        · obtain ⟨t, htb⟩ : ∃ t : Nat, byteI sch k - 48 = t := ⟨(byteI sch k - 48).toNat, by omega⟩
          have htp : t < W.prog.length := by omega
          have hst1 : stateOf W t = 1 := by have := hc.2.2; rw [htb, Int.toNat_natCast] at this; exact this
          rw [if_pos ⟨hc.1, by omega, hc.2.1, hc.2.2⟩, htb, Int.toNat_natCast] at hT
          have hyes : stepM (progL W) (msOf W) ((sch[k].toNat : Int) - 48) = some (msOf (moveT W t)) := by rw [hby, htb, step_sim I htp, if_pos hst1]
          simp only [hyes, stepV, moveV] at hM
          have I2 := moveT_inv I htp hst1
          have okN := msOf_ok I2.good
          have hMO := fun w' hw => moveOf_W V W I.good w' B (hpr.below (w' := w') hw) t htp (.inl hst1) ((sch[k].toNat : Int) - 48) (by omega)
          have HT : Hid (toLoop sch (moveT W t) (k + 1) = res) := hT
          have HLG : Hid ((moveT W t).log = W.log ++ [evAt W t]) := moveT_evAt W t
          have HPL2 : Hid (progL (moveT W t) = progL W0) := by rw [Hid, progL_move]; exact HPL.out
          have HC : Hid (mvCells (W.log ++ [evAt W t]) = mvCells W.log ++ (mvE (evAt W t)).cells.toList) := mvCells_snoc _ _
          obtain ⟨s', hs'⟩ : ∃ s', msOf (moveT W t) = s' := ⟨_, rfl⟩
          rw [hs'] at hM okN
          have HS : Hid (msOf (moveT W t) = s') := hs'
          generalize mvE (evAt W t) = mv at *
          obtain ⟨mth, mpl, ⟨mk, mi, mc⟩, mh⟩ := mv
          simp only [Mv.cells] at hMO
          clear hyes hc HE hby hT hs' htb hst1 HPL
          go_wp2_with (first
            | (go_at_call 84; refine (hM _ (Below.refl _ _)).mono ?_; rintro e w2 ⟨rfl, hb2⟩; have hstN := storeS_run (s := s') (heap_alloc_new w2 (.cells zeroS 95)) rfl okN; have hbX := Below.setRow (hb2.alloc hb2.size (.cells zeroS 95)) hb2.size s'.cells; have pX := cell_later hbX p0; have hldX := (hsr.below hbX).loadS)
            | (go_at_call 111; refine (hMO _ hbX).mono ?_; rintro e w3 ⟨rfl, hb3⟩; have hB3 := hbX.trans (hb3.mono hbX.size); have hown3 := hown.kept (grownBy_of_below hB3) (.inr (by simp [Value.ownBlock])))
            | (at_builtin; go_loud (refine wpList_appendLit _ rfl _ _ 102 rfl (w.heap.size + 2) 142 (.agg zeroMv) 6 56 Try.underlying102 infoMv rfl (by decide) _ _ _ rfl hown3 _ _ rfl rfl rfl ?c2 ?c3 ?c4 ?c5 ?_)))
          case c2 => exact ⟨rfl, rfl, rfl, rfl, rfl, rfl⟩
          case c3 => omega
          case c4 => omega
          case c5 => have := hB3.size; have := hBr.size; omega
          intro v' w4 ho4 hg4 hf4 hn4
          have hl2 := hb2.size
          have hl3 := hb3.size
          have hlX := hbX.size
          have hl3' := hB3.size
          have hX10 : StIn ((w2.alloc (.cells zeroS 95)).setRow w2.heap.size s'.cells) w2.heap.size s' := StIn.setRow (heap_alloc_new w2 _) okN
          have hs10 := (hX10.below hb3).grown hg4 (by simp [Value.ownBlock]; omega)
          have hs7 := (hsr.below hB3).grown hg4 (by simp [Value.ownBlock]; omega)
          have p4 := cell_append1 hg4 (cell_later hB3 p0) (by simp [Value.ownBlock]; omega)
          have r3 := (hB3.block _ hrl).trans r1
          have r4 : w4.heap[w.heap.size + 1]? = some (.cells #[.slice none 0 0, .slice none 0 0] 104 (0, 0)) := by
            rw [hg4.block _ (by simp; omega) (by simp [Value.ownBlock]; omega), heap_alloc_old _ _ (by omega)]; exact r3
          have hBX := hBr.trans (hB3.mono hBr.size)
          have hB4 := below_grown (hBX.alloc hBX.size _) (by have := hBX.size; simp; omega) hg4 (fun k hk => by simp [Value.ownBlock] at hk; omega)
          obtain ⟨g', cap', hv4⟩ := row_form ho4 hn4
          subst hv4
          have hne' : g' ≠ w1.heap.size := by
            rcases hf4 with e | ⟨g2, e, h2⟩
            · simp only [Value.ownBlock, Option.some.injEq] at e; omega
            · simp only [Value.ownBlock, Option.some.injEq] at e; simp at h2; omega
          have hldN := hs10.loadS
          have hstM := storeS_run hs7.blk (MS.cells_size ok) okN
          clear hg4 hf4 hn4 hX10 hown hown3 hstN hM hMO hld hldX pX
          go_wp2
          go_roundw
          case rel =>
            refine ⟨k + 1, moveT W t, g', cap', by omega, rfl, by rw [HLG.out]; simp, HT, by rw [HLG.out, List.length_append, HLK.out]; rfl, I2, HPL2.out, ?_, hne', by rw [HS.out]; exact StIn.setRow hs7.blk okN, ?_, ?_, Below.setRow hB4 (by omega) _⟩
            · rw [HLG.out, HC.out]
              have := ho4.kept (grownBy_setRow w4 w1.heap.size s'.cells) (.inr (by simp [Value.ownBlock]; exact hne'))
              simpa [Mv.cells] using this
            · rw [cell_setRow_other _ _ _ _ (show w.heap.size ≠ w1.heap.size by omega)]; exact p4
            · rw [setRow_other _ _ _ _ (by omega)]; exact r4
          case measure => simp [intOf]; omega
        · have hno : stepM (progL W) (msOf W) (byteI sch k - 48) = none := by
            by_cases hc2 : 48 ≤ byteI sch k ∧ byteI sch k < 48 + W.prog.length
            · obtain ⟨t, htb⟩ : ∃ t : Nat, byteI sch k - 48 = t := ⟨(byteI sch k - 48).toNat, by omega⟩
              rw [htb, step_sim I (by omega), if_neg (fun h1 => hc ⟨hc2.1, hc2.2, by rw [htb, Int.toNat_natCast]; exact h1⟩)]
            · rw [stepM, if_neg (by rw [progL_len]; omega)]
          rw [if_neg (fun h => hc ⟨h.1, h.2.2.1, h.2.2.2⟩)] at hT
          subst hT
          rw [← hby] at hno
          simp only [hno, stepV, moveV] at hM
          clear hno hc HE hby
          go_wp2_with (first | (go_at_call 84; refine (hM _ (Below.refl _ _)).mono ?_; rintro e w2 ⟨rfl, hb2⟩; have hstN := storeS_run (s := msOf W) (heap_alloc_new w2 (.cells zeroS 95)) rfl ok; have hbX := Below.setRow (hb2.alloc hb2.size (.cells zeroS 95)) hb2.size (msOf W).cells; have r2 := (hbX.block _ hrl).trans r1; have q0 : ((w2.alloc (.cells zeroS 95)).setRow w2.heap.size (msOf W).cells).cell? ⟨w.heap.size + 1, 0, none⟩ = some (.slice none 0 0) := cellB r2 rfl; have q1 : ((w2.alloc (.cells zeroS 95)).setRow w2.heap.size (msOf W).cells).cell? ⟨w.heap.size + 1, 1, none⟩ = some (.slice none 0 0) := cellB r2 rfl; have z0 := frozen_of_row _ _ 0 _ _ r2; have z1 := frozen_of_row _ _ 1 _ _ r2))
          exact bodyPost_ret (v := .tuple #[.agg #[.slice none 0 0, .slice none 0 0], .bool false]) (by simp [results, Try.results89, go_sem, q0, q1]) rfl ⟨rfl, ((hBr.trans (hbX.mono hBr.size)).setCell (p := ⟨w.heap.size + 1, 0, none⟩) (by simp) _).setCell (p := ⟨w.heap.size + 1, 1, none⟩) (by simp) _⟩
      · have hke' : k = sch.size := by omega
        have kl : ¬ (k : Int) < (sch.size : Int) := by omega
        have hpo : res = some W := by have h := HE.out; rw [toLoop, if_neg hke] at h; exact h.symm
        subst hpo
        have hLW := listWants_any V W I.good wr B hpr
        have hwl := wantsE_len W W.prog.length
        clear HE
        go_wp2_with (first | (go_at_call 112; refine hLW.mono ?_; rintro e w2 ⟨g2, c2, rfl, hb2, ho2⟩; have r2 := (hb2.block _ hrl).trans r1; have q0 : w2.cell? ⟨w.heap.size + 1, 0, none⟩ = some (.slice none 0 0) := cellB r2 rfl; have q1 : w2.cell? ⟨w.heap.size + 1, 1, none⟩ = some (.slice none 0 0) := cellB r2 rfl; have z0 := frozen_of_row _ _ 0 _ _ r2; have z1 := frozen_of_row _ _ 1 _ _ r2))
        have hBw := hBr.trans (hb2.mono hBr.size)
        have ho := hown.kept (grownBy_of_below hb2) (.inr (by simp [Value.ownBlock]))
        have hl2 := hb2.size
        have o1 := ownsRow_setCell_below (ownsRow_setCell_below ho (a := ⟨w.heap.size + 1, 0, none⟩) (by simp) (.slice (some ⟨g, 0, none⟩) W.log.length cap)) (a := ⟨w.heap.size + 1, 1, none⟩) (by simp) (.slice (some ⟨g2, 0, none⟩) (wantsE W W.prog.length).length c2)
        have o2 := ownsRow_setCell_below (ownsRow_setCell_below ho2 (a := ⟨w.heap.size + 1, 0, none⟩) (by simp; omega) (.slice (some ⟨g, 0, none⟩) W.log.length cap)) (a := ⟨w.heap.size + 1, 1, none⟩) (by simp; omega) (.slice (some ⟨g2, 0, none⟩) (wantsE W W.prog.length).length c2)
        refine bodyPost_ret (v := .tuple #[.agg #[.slice (some ⟨g, 0, none⟩) W.log.length cap, .slice (some ⟨g2, 0, none⟩) (wantsE W W.prog.length).length c2], .bool true]) (by simp [results, Try.results89, go_sem, q0, q1]) rfl ⟨⟨g, cap, g2, c2, rfl, mvsAt_of_row o1, mvsAt_of_row o2, by have := (ho.lt g rfl).1; omega, by have := (ho2.lt g2 rfl).1; have := hBr.size; omega⟩, ?_⟩
        exact (hBw.setCell (p := ⟨w.heap.size + 1, 0, none⟩) (by simp) _).setCell (p := ⟨w.heap.size + 1, 1, none⟩) (by simp) _
end Go.Proofs.Ytfdbnilopfnifaa
