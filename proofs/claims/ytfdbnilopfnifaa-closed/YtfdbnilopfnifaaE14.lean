import Derived.Test.YtfdbnilopfnifaaP2
import Derived.Test.YtfdbnilopfnifaaD9
namespace Go.Proofs.Ytfdbnilopfnifaa
open Go.RowKit
attribute [local go_sem ↓] loadS_fold storeS_fold zeroS_fold

def sliceLen : Value → Nat
  | .slice _ n _ => n
  | _ => 0
def digV (l : List Nat) : List Value := l.map fun (t : Nat) => Value.int .u8 (48 + (t : Int))
theorem digV_len (l : List Nat) : (digV l).length = l.length := by simp [digV]
theorem strOf_dig (l : List Nat) : strOfNums (l.map fun (t : Nat) => (48 + (t : Int))) = digS l := by
  have e : ∀ t : Nat, ((48 : Int) + t).toNat = 48 + t := fun t => by omega
  simp only [strOfNums, digS, List.map_map, Function.comp_def, e]
/-- The bytes of a schedule that is being made, as a text. -/
theorem conv_dig {w : World} {B g cap : Nat} {l : List Nat} (h : w.ownsRow B 5 1 (.slice (some ⟨g, 0, none⟩) l.length cap) l.length (digV l)) :
    (convert 89 9 (.slice (some ⟨g, 0, none⟩) l.length cap)).run Try.prog w = .ok (.string (digS l)) w := by
  rw [← strOf_dig]
  refine run_convert_bytes_arg (P := Try.prog) w 89 5 Try.underlying89 Try.underlying5 g 0 l.length cap _ (by simp) ?_ 9 Try.underlying9
  intro i hi
  have := h.cellAt i (by rw [Nat.mul_one]; exact hi)
  rw [Nat.zero_add, this]
  simp [digV, List.getD, hi]

theorem movers_none {W : Wd} (G : W.Good) (h : moversL (progL W) (msOf W) W.prog.length = []) : ∀ u, u < W.prog.length → stateOf W u ≠ 1 ∧ stateOf W u ≠ 5 := by
  intro u hu
  have h1 : mayB (progL W) (msOf W) u ≠ true := (List.filter_eq_nil_iff.1 h) u (List.mem_range.2 hu)
  rw [mayB_sim G hu, ne_eq, decide_eq_true_iff] at h1
  omega
theorem ownsRow_setRow {w : World} {B g : Nat} {e : TypeId} {size n : Nat} {v : Value} {xs : List Value} (h : w.ownsRow B e size v n xs) (hg : g < B) (c : Array Value) : (w.setRow g c).ownsRow B e size v n xs :=
  h.kept (row := some g) ⟨by simp, by simp, by simp, by simp, fun k _ hk => setRow_other w g k c (fun e => hk (by rw [e]))⟩ (by
    cases hv : v.ownBlock with
    | none => exact .inl rfl
    | some k => exact .inr (fun e => by simp only [Option.some.injEq] at e; have := (h.lt k hv).1; omega))

theorem StIn.grown {w w3 : World} {g0 : Nat} {s : MS} {o : Obj} {row : Option Nat} (h : StIn w g0 s) (hg : (w.alloc o).grownBy w3 row) (hne : some g0 ≠ row) : StIn w3 g0 s := by
  have h1 := h.alloc o
  exact ⟨(hg.block g0 h1.lt hne).trans h1.blk, h.ok⟩
theorem digV_snoc (l : List Nat) (t : Nat) : digV l ++ [Value.int .u8 (48 + (t : Int))] = digV (l ++ [t]) := by simp [digV]

set_option maxRecDepth 100000 in
set_option maxHeartbeats 8000000 in
theorem Run_any (V : Value) (W0 : Wd) (I0 : W0.Inv) (picks : ByteArray) (w : World) (B : Nat) (hp : ProgIn w B V (progL W0)) :
    Calls Try.prog 54 #[.agg #[V], .agg (msOf W0).cells, .string picks] w fun e w' => e = .returned (.tuple #[.string (digS (resumeL picks 61 W0 []).1), .int .i64 (resumeL picks 61 W0 []).2]) ∧ Below w.heap.size w w' := by
  have HP : Hid (ProgIn w B V (progL W0)) := hp
  have hst0 : StIn (boxes w V (msOf W0)) (w.heap.size + 1) (msOf W0) := ⟨heap_alloc2_new _ _ _, msOf_ok I0.good⟩
  have hc0 : (boxes w V (msOf W0)).cell? ⟨w.heap.size, 0, none⟩ = some V := cellB (heap_alloc2_old _ _ _) rfl
  have hbs : (boxes w V (msOf W0)).heap.size = w.heap.size + 2 := by simp
  generalize hres : resumeL picks 61 W0 [] = res
  have HR0 : Hid (resumeL picks 61 W0 [] = res) := hres
  clear hp hres
  go_enter Try.func54, Try.ntmps54
  go_wp2
  go_loopw [8] (fun v wr => ∃ (W : Wd) (out : List Nat) (g cap : Nat), v = .slice (some ⟨g, 0, none⟩) out.length cap ∧ wr.ownsRow (w.heap.size + 2) 5 1 (.slice (some ⟨g, 0, none⟩) out.length cap) out.length (digV out) ∧ Hid (resumeL picks (61 - out.length) W out = res) ∧ out.length ≤ W.log.length ∧ W.Inv ∧ progL W = progL W0 ∧ StIn wr (w.heap.size + 1) (msOf W) ∧ wr.cell? ⟨w.heap.size, 0, none⟩ = some V ∧ Below w.heap.size w wr) (fun v _ => 61 - sliceLen v)
  case atStart =>
    refine ⟨W0, [], w.heap.size + 2, 0, rfl, ?_, HR0, Nat.zero_le _, I0, rfl, hst0.alloc _, cell_later ((Below.refl _ _).alloc (Nat.le_refl _) _) hc0, ?_⟩
    · have h := World.ownsRow_lit (boxes w V (msOf W0)) (base := w.heap.size + 2) (e := 5) (size := 1) #[] 0 (by simp) (Nat.zero_le _) rfl
      simpa [digV] using h
    · exact (two_new ((Below.refl _ _).alloc (Nat.le_refl _) _)).2.2.1
  case round =>
    obtain ⟨W, out, g, cap, rfl, hown, HE, hol, I, HPL, hsr, p0, hBr⟩ := hrel
    have HPL' : Hid (progL W = progL W0) := HPL
    clear HPL hst0 hc0 hbs HR0
    have h60 := I.small
    have h5 := I.good.n5
    have hpr : ProgIn wr B V (progL W) := by rw [HPL'.out]; exact HP.out.below hBr
    have HE2 : Hid (resumeL picks ((60 - out.length) + 1) W out = res) := by rw [← HE.out, Hid]; congr 1; omega
    clear HE
    have hLM := listMovers_any V (progL W) (msOf W) (msOf_ok I.good) wr B hpr (progL_po I.good)
    rw [progL_len] at hLM
    have hmv : (mayLoop W 0 [] false).1 = moversL (progL W) (msOf W) W.prog.length := movers_sim I.good _ 0 false rfl (Nat.zero_le _)
    have hmem := mayLoop_mem W _ 0 [] false rfl (by simp)
    have hres : res = _ := HE2.out.symm.trans (by rw [resumeL])
    rw [hmv] at hres hmem
    have hno := movers_none I.good
    have hmv5 : (moversL (progL W) (msOf W) W.prog.length).length ≤ 5 := Nat.le_trans (moversL_len _ _ _) h5
    have hgl := hown.lt g rfl
    have hld := hsr.loadS
    generalize moversL (progL W) (msOf W) W.prog.length = mv at *
    by_cases hl0 : mv = []
    · have hend : endL (progL W) (msOf W) 0 = if (mayLoop W 0 [] false).2 = true then 2 else 1 := by
        exact end_sim I.good _ 0 [] rfl (hno hl0)
      rw [if_pos hl0, ← hend] at hres
      subst hl0
      have HRES : Hid (res = (out, endL (progL W) (msOf W) 0)) := hres
      have hEn := fun w' hw => endOf_any V (progL W) (msOf W) (msOf_ok I.good) w' B (hpr.below (w' := w') hw) (progL_po I.good)
      generalize endL (progL W) (msOf W) 0 = en at *
      clear hres hend hmem hmv HE2 hno
      go_wp2_with (first
        | (go_at_call 81; refine hLM.mono ?_; rintro e w1 ⟨v1, rfl, ⟨g1, cap1, rfl, ho1⟩, hb1⟩; have p1 := cell_later hb1 p0; have hs1 := hsr.below hb1; have hld1 := hs1.loadS; have hown1 := hown.kept (grownBy_of_below hb1) (.inr (by simp [Value.ownBlock])); have hcv1 := conv_dig hown1))
      go_region_held3 (fun w' => (convert 89 9 (.slice (some ⟨g, 0, none⟩) out.length cap)).run Try.prog w' = .ok (.string (digS out)) w' ∧ w'.cell? ⟨w.heap.size, 0, none⟩ = some V ∧ (loadS (.pointer (some ⟨w.heap.size + 1, 0, none⟩))).run Try.prog w' = .ok (.agg (msOf W).cells) w')
        (first | exact ⟨hcv1, p1, hld1⟩ | (refine ⟨conv_dig (hown1.kept (grownBy_of_below ?_) (.inr (by simp [Value.ownBlock]))), cell_later ?_ p1, (hs1.below ?_).loadS⟩ <;> first | exact Below.refl _ _ | exact (Below.refl _ _).drew | exact hx1 | exact hx1.drew) | go_keep)
        (first | (go_at_call 82; refine (hEn _ (by first | exact hb1 | exact hb1.drew)).mono ?_; rintro e w2 ⟨rfl, hbb⟩; have hx1 : Below w1.heap.size w1 w2 := (by first | exact hbb | exact below_of_drew hbb)))
      go_wp2
      go_ret2
      exact ⟨by rw [HRES.out]; rfl, (hBr.trans ((hb1.trans (hx1.mono hb1.size)).mono hBr.size))⟩
    · rw [if_neg hl0] at hres
      have hlp : 0 < mv.length := by cases mv with | nil => exact absurd rfl hl0 | cons _ _ => simp
      obtain ⟨k, hk⟩ : ∃ k, k = (byteI picks out.length).toNat % mv.length := ⟨_, rfl⟩
      have hkl : k < mv.length := by rw [hk]; exact Nat.mod_lt _ hlp
      rw [← hk] at hres
      have hgd : mv.getD k 0 = mv[k] := by simp [hkl]
      rw [hgd] at hres
      have hx := hmem mv[k] (by simp)
      have hb0 := byteI_lo picks out.length
      have hb9 := byteI_hi picks out.length
      have hmod : byteI picks out.length % (mv.length : Int) = (k : Int) := by
        rw [hk]; simp [Int.natCast_emod, Int.toNat_of_nonneg hb0]
      have hcell : ∀ (w' : World) (B' : Nat) (v : Value) (g1 cap1 : Nat), v = .slice (some ⟨g1, 0, none⟩) mv.length cap1 → w'.ownsRow B' 3 1 v mv.length (mv.map fun (n : Nat) => Value.int .i64 (n : Int)) → w'.cell? ⟨g1, k, none⟩ = some (.int .i64 mv[k]) := by
        intro w' B' v g1 cap1 hv ho
        subst hv
        rw [ho.cellAt k (by omega)]
        simp [hkl]
      obtain ⟨tt, htt0⟩ : ∃ tt, mv[k] = tt := ⟨_, rfl⟩
      rw [htt0] at hx hres hcell
      obtain ⟨htt, hst2⟩ := hx
      have hSS := step_sim I htt
      have hMv := fun w' hw => Move_any V (progL W) (msOf W) (msOf_ok I.good) w' B (hpr.below (w' := w') hw) (progL_po I.good) (tt : Int)
      rw [hSS] at hMv
      have HRES : Hid (res = if stateOf W tt = 5 then (out, 3) else resumeL picks (60 - out.length) (moveT W tt) (out ++ [tt])) := hres
      clear hres hmem hmv hno HE2 hgd htt0 hk hSS hl0
      by_cases h5' : stateOf W tt = 5
      · have HR2 : Hid (res = (out, 3)) := by rw [Hid, HRES.out, if_pos h5']
        rw [if_neg (by omega)] at hMv
        have okW := msOf_ok I.good
        clear HRES
        go_wp2_with (first
          | (go_at_call 81; refine hLM.mono ?_; rintro e w1 ⟨v1, rfl, ⟨g1, cap1, hv1, ho1⟩, hb1⟩; have k1 := hcell _ _ _ _ _ hv1 ho1; subst hv1; have p1 := cell_later hb1 p0; have hs1 := hsr.below hb1; have hld1 := hs1.loadS; have hown1 := hown.kept (grownBy_of_below hb1) (.inr (by simp [Value.ownBlock])))
          | (go_at_call 83; refine (pickAt_any picks out.length _ rfl _).mono ?_; rintro e w5 ⟨rfl, hw⟩; have hw2 := hw.symm; clear hw; subst hw2)
          | (go_at_call 84; refine (hMv _ hb1).mono ?_; rintro e w2 ⟨he, hb2⟩; rw [stepV, moveV] at he; subst he; have hstN := storeS_run (s := msOf W) (heap_alloc_new w2 (.cells zeroS 95)) rfl okW; have hb12 := hb1.trans (hb2.mono hb1.size); have hbN := Below.setRow (hb2.alloc hb2.size (.cells zeroS 95)) hb2.size (msOf W).cells; have hcvN := conv_dig (hown1.kept (grownBy_of_below hbN) (.inr (by simp [Value.ownBlock])))))
        go_ret2
        exact ⟨by rw [HR2.out]; rfl, hBr.trans ((hb1.trans (hbN.mono hb1.size)).mono hBr.size)⟩
      · have h1' : stateOf W tt = 1 := by omega
        have HR2 : Hid (resumeL picks (61 - (out ++ [tt]).length) (moveT W tt) (out ++ [tt]) = res) := by
          rw [Hid, HRES.out, if_neg h5']; congr 1; simp
        rw [if_pos h1'] at hMv
        have I2 := moveT_inv I htt h1'
        have okW := msOf_ok I2.good
        have okW0 := msOf_ok I.good
        have hlg := moveT_log (W := W) tt
        have HPL2 : Hid (progL (moveT W tt) = progL W0) := by rw [Hid, progL_move]; exact HPL'.out
        clear HRES
        obtain ⟨s', hs'⟩ : ∃ s', msOf (moveT W tt) = s' := ⟨_, rfl⟩
        rw [hs'] at hMv okW
        have HS : Hid (msOf (moveT W tt) = s') := hs'
        clear hs'
        go_wp2_with (first
          | (go_at_call 81; refine hLM.mono ?_; rintro e w1 ⟨v1, rfl, ⟨g1, cap1, hv1, ho1⟩, hb1⟩; have k1 := hcell _ _ _ _ _ hv1 ho1; subst hv1; have p1 := cell_later hb1 p0; have hs1 := hsr.below hb1; have hld1 := hs1.loadS; have hown1 := hown.kept (grownBy_of_below hb1) (.inr (by simp [Value.ownBlock])))
          | (go_at_call 83; refine (pickAt_any picks out.length _ rfl _).mono ?_; rintro e w5 ⟨rfl, hw⟩; have hw2 := hw.symm; clear hw; subst hw2)
          | (go_at_call 84; refine (hMv _ hb1).mono ?_; rintro e w2 ⟨he, hb2⟩; rw [stepV, moveV] at he; subst he; have hstN := storeS_run (s := s') (heap_alloc_new w2 (.cells zeroS 95)) rfl okW; have hbN := Below.setRow (hb2.alloc hb2.size (.cells zeroS 95)) hb2.size s'.cells; have hownN := hown1.kept (grownBy_of_below hbN) (.inr (by simp [Value.ownBlock])))
          | (at_builtin; go_loud (refine wpList_appendLit _ rfl _ _ 89 rfl (w.heap.size + 2) 5 (.int .u8 0) 1 1 Try.underlying89 infoU8 rfl (by decide) _ _ _ rfl hownN _ (w2.heap.size + 1) (by simp) rfl rfl ?c2 ?c3 ?c4 ?c5 ?_)))
        case c2 => rfl
        case c3 => omega
        case c4 => omega
        case c5 => have := hBr.size; have := hb1.size; have := hbN.size; omega
        intro v' w3 ho3 hg3 hf3 hn3
        have hX11 : StIn ((w2.alloc (.cells zeroS 95)).setRow w2.heap.size s'.cells) w2.heap.size s' := StIn.setRow (heap_alloc_new w2 _) okW
        have hX4 := hs1.below hbN
        have pX := cell_later hbN p1
        have hsz1 := hb1.size
        have hsz2 := hb2.size
        have hs11 := hX11.grown hg3 (by simp [Value.ownBlock]; omega)
        have hs4 := hX4.grown hg3 (by simp [Value.ownBlock]; omega)
        have p3 := cell_append1 hg3 pX (by simp [Value.ownBlock]; omega)
        have hBX := hBr.trans ((hb1.trans (hbN.mono hb1.size)).mono hBr.size)
        have hB3 := below_grown (hBX.alloc hBX.size _) (by have := hBX.size; simp; omega) hg3 (fun k hk => by simp [Value.ownBlock] at hk; omega)
        obtain ⟨g', cap', hv3⟩ := row_form ho3 hn3
        subst hv3
        have hldN := hs11.loadS
        have hstM := storeS_run hs4.blk (MS.cells_size okW0) okW
        clear hg3 hf3 hn3 hX11 hX4 pX hown hown1 hownN hstN hcell hmod hMv hLM hld hld1
        go_wp2
        go_roundw
        case rel =>
          refine ⟨moveT W tt, out ++ [tt], g', cap', by simp, ?_, HR2, by rw [hlg]; simp; omega, I2, HPL2.out, ?_, ?_, Below.setRow hB3 (by omega) _⟩
          · rw [← digV_snoc]
            have := ownsRow_setRow ho3 (show w.heap.size + 1 < w.heap.size + 2 by omega) s'.cells
            simpa using this
          · rw [HS.out]; exact StIn.setRow hs4.blk okW
          · rw [cell_setRow_other _ _ _ _ (show w.heap.size ≠ w.heap.size + 1 by omega)]; exact p3
        case measure => simp [sliceLen]; omega
end Go.Proofs.Ytfdbnilopfnifaa
namespace Go.Proofs.Ytfdbnilopfnifaa
open Go.RowKit
attribute [local go_sem ↓] Go.wp_at_zero Go.wp_at_succ

theorem digS_one (t : Nat) : (⟨#[UInt8.ofNat (48 + t)]⟩ : ByteArray) = nameS t := rfl

set_option maxHeartbeats 8000000 in
set_option maxRecDepth 100000 in
theorem refResume_ok (s sch picks : ByteArray) (w : World) (h : (ckP s).1 = 0) (hs : s.size ≤ 160) (hsch : sch.size ≤ maxLen) (hpk : picks.size ≤ maxLen) (I0 : (beginW (thLoop s 0 0 [])).Inv) (W0 : Wd) (hW : toLoop sch (beginW (thLoop s 0 0 [])) 0 = some W0) :
    Calls Try.prog 17 #[.string s, .string sch, .string picks] w fun e w' => e = .returned (.tuple #[.string (digS (resumeL picks 61 W0 []).1), .int .i64 (resumeL picks 61 W0 []).2, .int .i64 0]) ∧ Below w.heap.size w w' := by
  have hwd := fun w => world_ok s sch w h hs hsch I0 W0 hW
  unfold maxLen at hpk
  clear h hs hsch I0 hW
  go_enter Try.func17, Try.ntmps17
  go_wp2_with (go_at_call 49; refine (hwd _).mono ?_; rintro e w1 ⟨p, rfl, hB1, hR1, I1⟩; clear hwd)
  go_loopw [11] (fun o wr => ∃ (W : Wd) (out : List Nat), o = .string (digS out) ∧ Hid (resumeL picks 61 W0 [] = resumeL picks (61 - out.length) W out) ∧ out.length ≤ W.log.length ∧ (∀ t ∈ out, t ≤ 100) ∧ W.Inv ∧ Below w.heap.size w wr ∧ RepW wr w.heap.size p W) (fun o _ => 61 - strLen o)
  case atStart => exact ⟨W0, [], rfl, rfl, Nat.zero_le _, by simp, I1, hB1, hR1⟩
  case round =>
    obtain ⟨W, out, rfl, hh, hol, hout, I, hBr, hR⟩ := hrel
    clear hB1 hR1 I1
    have h60 := I.small
    have h5 := I.good.n5
    have hh2 : Hid (resumeL picks 61 W0 [] = resumeL picks ((60 - out.length) + 1) W out) := by
      rw [Hid, hh.out]; congr 1; omega
    clear hh
    have hods := digS_size out
    go_wp2
    go_loopw [12, 13, 14] (fun m a i wx => ∃ (t : Nat) (l : List Nat) (al : Bool), t ≤ W.prog.length ∧ m = .string (digS l) ∧ a = .bool al ∧ i = .int .i64 t ∧ l.length ≤ t ∧ Hid (mayLoop W 0 [] false = mayLoop W t l al) ∧ Below w.heap.size w wx ∧ RepW wx w.heap.size p W) (fun _ _ i _ => W.prog.length - (intOf i).toNat)
    case atStart => exact ⟨0, [], false, Nat.zero_le _, rfl, rfl, rfl, Nat.zero_le _, rfl, hBr, hR⟩
    case round =>
      obtain ⟨t, l, al, ht, rfl, rfl, rfl, hlt, hm, hBx, hRx⟩ := hrel
      clear hBr hR
      have hlds := digS_size l
      obtain ⟨gP, cP, gB, cB, gL, cL, gH, cH, gS, cS, aG, cG, hWx⟩ := hRx.wIn I.good.ok
      have fP := hWx.fP
      clear hWx
      by_cases htn : t < W.prog.length
      · have hst := State_rep _ p t W wr hRx I htn t rfl
        have hm2 : Hid (mayLoop W 0 [] false = mayLoop W (t + 1) (if stateOf W t = 1 ∨ stateOf W t = 5 then l ++ [t] else l) (al || decide (stateOf W t = 2) || decide (stateOf W t = 3))) := by
          rw [Hid, hm.out, mayLoop, if_pos htn]
        have hnm := fun wx => name_any t wx (by omega)
        have hsn := digS_snoc l t
        have hns := nameS_size t
        clear hm
        generalize stateOf W t = st at hst hm2
        have hc : st = 1 ∨ st = 5 ∨ st = 2 ∨ st = 3 ∨ (st ≠ 1 ∧ st ≠ 5 ∧ st ≠ 2 ∧ st ≠ 3) := by omega
        rcases hc with rfl | rfl | rfl | rfl | ⟨q1, q5, q2, q3⟩
        · rw [if_pos (.inl rfl)] at hm2
          cases al
          all_goals
            go_wp2_with (first
              | (go_at_call 50; refine hst.mono ?_; rintro e w3 ⟨rfl, hB3⟩; have hR3 := hRx.below hB3; have hBx3 := hBx.trans (hB3.mono hBx.size))
              | (go_at_call 51; refine (hnm _).mono ?_; rintro e w4 ⟨rfl, hB4⟩))
            go_roundw
            case rel => exact ⟨t + 1, l ++ [t], _, by omega, rfl, rfl, by go_num, by simp; omega, hm2, hBx3.trans (hB4.mono hBx3.size), hR3.below hB4⟩
            case measure => simp [intOf]; omega
        · rw [if_pos (.inr rfl)] at hm2
          cases al
          all_goals
            go_wp2_with (first
              | (go_at_call 50; refine hst.mono ?_; rintro e w3 ⟨rfl, hB3⟩; have hR3 := hRx.below hB3; have hBx3 := hBx.trans (hB3.mono hBx.size))
              | (go_at_call 51; refine (hnm _).mono ?_; rintro e w4 ⟨rfl, hB4⟩))
            go_roundw
            case rel => exact ⟨t + 1, l ++ [t], _, by omega, rfl, rfl, by go_num, by simp; omega, hm2, hBx3.trans (hB4.mono hBx3.size), hR3.below hB4⟩
            case measure => simp [intOf]; omega
        · rw [if_neg (by omega)] at hm2
          cases al
          all_goals
            go_wp2_with (first
              | (go_at_call 50; refine hst.mono ?_; rintro e w3 ⟨rfl, hB3⟩; have hR3 := hRx.below hB3; have hBx3 := hBx.trans (hB3.mono hBx.size))
              | (go_at_call 51; refine (hnm _).mono ?_; rintro e w4 ⟨rfl, hB4⟩))
            go_roundw
            case rel => exact ⟨t + 1, l, _, by omega, rfl, rfl, by go_num, by omega, hm2, hBx3, hR3⟩
            case measure => simp [intOf]; omega
        · rw [if_neg (by omega)] at hm2
          cases al
          all_goals
            go_wp2_with (first
              | (go_at_call 50; refine hst.mono ?_; rintro e w3 ⟨rfl, hB3⟩; have hR3 := hRx.below hB3; have hBx3 := hBx.trans (hB3.mono hBx.size))
              | (go_at_call 51; refine (hnm _).mono ?_; rintro e w4 ⟨rfl, hB4⟩))
            go_roundw
            case rel => exact ⟨t + 1, l, _, by omega, rfl, rfl, by go_num, by omega, hm2, hBx3, hR3⟩
            case measure => simp [intOf]; omega
        · rw [if_neg (by omega), decide_eq_false q2, decide_eq_false q3] at hm2
          have b1 : (st == 1) = false := by simpa using q1
          have b5 : (st == 5) = false := by simpa using q5
          have b2 : (st == 2) = false := by simpa using q2
          have b3 : (st == 3) = false := by simpa using q3
          clear q1 q5 q2 q3
          cases al
          all_goals
            go_wp2_with (first
              | (go_at_call 50; refine hst.mono ?_; rintro e w3 ⟨rfl, hB3⟩; have hR3 := hRx.below hB3; have hBx3 := hBx.trans (hB3.mono hBx.size))
              | (go_at_call 51; refine (hnm _).mono ?_; rintro e w4 ⟨rfl, hB4⟩))
            go_roundw
            case rel => exact ⟨t + 1, l, _, by omega, rfl, rfl, by go_num, by omega, hm2, hBx3, hR3⟩
            case measure => simp [intOf]; omega
      · have hml : mayLoop W 0 [] false = (l, al) := by rw [hm.out, mayLoop, if_neg htn]
        have hmem := mayLoop_mem W _ 0 [] false rfl (by simp)
        rw [hml] at hmem
        have hres : resumeL picks 61 W0 [] = if l = [] then (out, if al = true then 2 else 1) else if stateOf W (l.getD ((byteI picks out.length).toNat % l.length) 0) = 5 then (out, 3)
            else resumeL picks (60 - out.length) (moveT W (l.getD ((byteI picks out.length).toNat % l.length) 0)) (out ++ [l.getD ((byteI picks out.length).toNat % l.length) 0]) := by
          rw [hh2.out, resumeL, hml]
        have hemp := digS_empty l
        clear hm hml hh2
        by_cases hl0 : l = []
        · have HR : Hid (resumeL picks 61 W0 [] = (out, if al = true then 2 else 1)) := by rw [Hid, hres, if_pos hl0]
          subst hl0
          have hemp' : (digS []).toList.isEmpty = true := by rw [digS_empty]; rfl
          clear hres hemp hmem
          cases al
          all_goals
            go_wp2
            go_ret3
            exact ⟨by rw [HR.out]; rfl, hBx⟩
        · have hemp' : (digS l).toList.isEmpty = false := by rw [hemp]; cases l with | nil => exact absurd rfl hl0 | cons _ _ => rfl
          rw [if_neg hl0] at hres
          have hlp : 0 < l.length := by cases l with | nil => exact absurd rfl hl0 | cons _ _ => simp
          obtain ⟨k, hk⟩ : ∃ k, k = (byteI picks out.length).toNat % l.length := ⟨_, rfl⟩
          have hkl : k < l.length := by rw [hk]; exact Nat.mod_lt _ hlp
          rw [← hk] at hres
          have hgd : l.getD k 0 = l[k] := by simp [hkl]
          rw [hgd] at hres
          have hx := hmem l[k] (by simp)
          have hbyte := digS_get l k (by rw [hlds]; exact hkl) (fun t ht => by have := hmem t ht; omega)
          generalize l[k] = tt at hx hbyte hres
          obtain ⟨htt, hst2⟩ := hx
          have hst := fun wx i hi (hx : RepW wx w.heap.size p W) => State_rep _ p tt W wx hx I htt i hi
          have HRES : Hid (resumeL picks 61 W0 [] = if stateOf W tt = 5 then (out, 3) else resumeL picks (60 - out.length) (moveT W tt) (out ++ [tt])) := hres
          clear hres hemp hmem hgd
          have hconv := fun wx => conv1 wx (48 + tt)
          have hcn : (⟨#[UInt8.ofNat ((48 : Int) + tt).toNat]⟩ : ByteArray) = nameS tt := by rw [nameS]; congr 3
          rw [hcn] at hconv
          have hsn := digS_snoc out tt
          have hns := nameS_size tt
          clear hcn
          have hb0 := byteI_lo picks out.length
          have hb9 := byteI_hi picks out.length
          by_cases hpo : out.length < picks.size
          · have hbk := byteI_in hpo
            have hmod : byteI picks out.length % (l.length : Int) = (k : Int) := by
              rw [hk]; simp [Int.natCast_emod, Int.toNat_of_nonneg hb0]
            clear hk
            by_cases h5' : stateOf W tt = 5
            · have HR2 : Hid (resumeL picks 61 W0 [] = (out, 3)) := by rw [Hid, HRES.out, if_pos h5']
              rw [h5'] at hst
              clear HRES
              go_wp2_with (go_at_call 50; refine (hst _ _ (by omega) hRx).mono ?_; rintro e w3 ⟨rfl, hB3⟩)
              go_ret3
              exact ⟨by rw [HR2.out]; rfl, hBx.trans (hB3.mono hBx.size)⟩
            · have h1' : stateOf W tt = 1 := by omega
              have HR2 : Hid (resumeL picks 61 W0 [] = resumeL picks (61 - (out ++ [tt]).length) (moveT W tt) (out ++ [tt])) := by
                rw [Hid, HRES.out, if_neg h5']; congr 1; simp
              rw [h1'] at hst
              have hmv := fun wx i hi (hb : w.heap.size ≤ wx.heap.size) (hx : RepW wx w.heap.size p W) => move_rep w.heap.size p tt W wx hx I htt h1' hb i hi
              have I2 := moveT_inv I htt h1'
              have hlg := moveT_log (W := W) tt
              clear HRES
              go_wp2_with (first
                | (go_at_call 50; refine (hst _ _ (by omega) hRx).mono ?_; rintro e w3 ⟨rfl, hB3⟩)
                | (go_at_call 52; refine (hmv _ _ (by omega) (Nat.le_trans hBx.size hB3.size) (hRx.below hB3)).mono ?_; rintro e w4 ⟨rfl, hB4, hR4⟩))
              go_roundw
              case rel =>
                refine ⟨moveT W tt, out ++ [tt], rfl, HR2, by rw [hlg]; simp; omega, ?_, I2, ?_, ?_⟩
                · intro x hx
                  rcases List.mem_append.1 hx with hx | hx
                  · exact hout x hx
                  · simp at hx; omega
                · exact ((hBx.trans (hB3.mono hBx.size)).trans hB4).alloc (Nat.le_trans (Nat.le_trans hBx.size hB3.size) hB4.size) _
                · exact hR4.below ((Below.refl _ _).alloc (Nat.le_refl _) _)
              case measure => simp [strLen, digS_size]; omega
          · have hbz : byteI picks out.length = 0 := by rw [byteI, dif_neg hpo]
            have hk0 : k = 0 := by rw [hk, hbz]; simp
            subst hk0
            clear hk hbz
            by_cases h5' : stateOf W tt = 5
            · have HR2 : Hid (resumeL picks 61 W0 [] = (out, 3)) := by rw [Hid, HRES.out, if_pos h5']
              rw [h5'] at hst
              clear HRES
              go_wp2_with (go_at_call 50; refine (hst _ _ (by omega) hRx).mono ?_; rintro e w3 ⟨rfl, hB3⟩)
              go_ret3
              exact ⟨by rw [HR2.out]; rfl, hBx.trans (hB3.mono hBx.size)⟩
            · have h1' : stateOf W tt = 1 := by omega
              have HR2 : Hid (resumeL picks 61 W0 [] = resumeL picks (61 - (out ++ [tt]).length) (moveT W tt) (out ++ [tt])) := by
                rw [Hid, HRES.out, if_neg h5']; congr 1; simp
              rw [h1'] at hst
              have hmv := fun wx i hi (hb : w.heap.size ≤ wx.heap.size) (hx : RepW wx w.heap.size p W) => move_rep w.heap.size p tt W wx hx I htt h1' hb i hi
              have I2 := moveT_inv I htt h1'
              have hlg := moveT_log (W := W) tt
              clear HRES
              go_wp2_with (first
                | (go_at_call 50; refine (hst _ _ (by omega) hRx).mono ?_; rintro e w3 ⟨rfl, hB3⟩)
                | (go_at_call 52; refine (hmv _ _ (by omega) (Nat.le_trans hBx.size hB3.size) (hRx.below hB3)).mono ?_; rintro e w4 ⟨rfl, hB4, hR4⟩))
              go_roundw
              case rel =>
                refine ⟨moveT W tt, out ++ [tt], rfl, HR2, by rw [hlg]; simp; omega, ?_, I2, ?_, ?_⟩
                · intro x hx
                  rcases List.mem_append.1 hx with hx | hx
                  · exact hout x hx
                  · simp at hx; omega
                · exact ((hBx.trans (hB3.mono hBx.size)).trans hB4).alloc (Nat.le_trans (Nat.le_trans hBx.size hB3.size) hB4.size) _
                · exact hR4.below ((Below.refl _ _).alloc (Nat.le_refl _) _)
              case measure => simp [strLen, digS_size]; omega

theorem refResume_err (s sch picks : ByteArray) (w : World) (h : (ckP s).1 ≠ 0) :
    Calls Try.prog 17 #[.string s, .string sch, .string picks] w fun e w' => e = .returned (.tuple #[.string ⟨#[]⟩, .int .i64 0, .int .i64 (ckP s).1]) ∧ Below w.heap.size w w' := by
  have hwd := fun w => world_err s sch w h
  generalize (ckP s).1 = a at *
  have ha : (a != 0) = true := by simpa using h
  go_enter Try.func17, Try.ntmps17
  go_wp2_with (go_at_call 49; refine (hwd _).mono ?_; rintro e w1 ⟨rfl, hB1⟩)
  go_ret3
  exact ⟨rfl, hB1⟩
theorem refResume_none (s sch picks : ByteArray) (w : World) (h : (ckP s).1 = 0) (hs : s.size ≤ 160) (hsch : sch.size ≤ maxLen) (I0 : (beginW (thLoop s 0 0 [])).Inv) (hW : toLoop sch (beginW (thLoop s 0 0 [])) 0 = none) :
    Calls Try.prog 17 #[.string s, .string sch, .string picks] w fun e w' => e = .returned (.tuple #[.string ⟨#[]⟩, .int .i64 0, .int .i64 5]) ∧ Below w.heap.size w w' := by
  have hwd := fun w => world_none s sch w h hs hsch I0 hW
  go_enter Try.func17, Try.ntmps17
  go_wp2_with (go_at_call 49; refine (hwd _).mono ?_; rintro e w1 ⟨rfl, hB1⟩)
  go_ret3
  exact ⟨rfl, hB1⟩
end Go.Proofs.Ytfdbnilopfnifaa
