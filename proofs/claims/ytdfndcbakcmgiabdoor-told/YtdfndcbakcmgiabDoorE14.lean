import Derived.Test.YtdfndcbakcmgiabDoorS1
import Derived.Test.YtdfndcbakcmgiabDoorD1
namespace Go.Proofs.YtdfndcbakcmgiabDoor
open Go.RowKit
attribute [local go_sem ↓] loadS_fold storeS_fold zeroS_fold

def sliceLen : Value → Nat
  | .slice _ n _ => n
  | _ => 0
def digV (l : List Nat) : List Value := l.map fun (t : Nat) => Value.int .u8 (48 + (t : Int))
theorem digV_len (l : List Nat) : (digV l).length = l.length := by simp [digV]
theorem strOf_dig (l : List Nat) : strOfNums (l.map fun (t : Nat) => (48 + (t : Int))) = digS l := by
  have e : ∀ t : Nat, ((48 : Int) + t).toNat = 48 + t := fun t => by omega
  simp only [strOfNums, digS, List.map_map, Function.comp_def, e]
/-- The bytes of a schedule that is being made, as a text. -/
theorem conv_dig {w : World} {B g cap : Nat} {l : List Nat} (h : w.ownsRow B 5 1 (.slice (some ⟨g, 0, none⟩) l.length cap) l.length (digV l)) :
    (convert 47 9 (.slice (some ⟨g, 0, none⟩) l.length cap)).run Tryd.prog w = .ok (.string (digS l)) w := by
  rw [← strOf_dig]
  refine run_convert_bytes_arg (P := Tryd.prog) w 47 5 Tryd.underlying47 Tryd.underlying5 g 0 l.length cap _ (by simp) ?_ 9 Tryd.underlying9
  intro i hi
  have := h.cellAt i (by rw [Nat.mul_one]; exact hi)
  rw [Nat.zero_add, this]
  simp [digV, List.getD, hi]

theorem movers_none {W : Wd} (G : W.Good) (h : moversL (progL W) (msOf W) W.prog.length = []) : ∀ u, u < W.prog.length → stateOf W u ≠ 1 ∧ stateOf W u ≠ 5 := by
  intro u hu
  have h1 : mayB (progL W) (msOf W) u ≠ true := (List.filter_eq_nil_iff.1 h) u (List.mem_range.2 hu)
  rw [mayB_sim G hu, ne_eq, decide_eq_true_iff] at h1
  omega
theorem ownsRow_setRow {w : World} {B g : Nat} {e : TypeId} {size n : Nat} {v : Value} {xs : List Value} (h : w.ownsRow B e size v n xs) (hg : g < B) (c : Array Value) : (w.setRow g c).ownsRow B e size v n xs :=
  h.kept (row := some g) ⟨by simp, by simp, by simp, by simp, fun k _ hk => setRow_other w g k c (fun e => hk (by rw [e]))⟩ (by
    cases hv : v.ownBlock with
    | none => exact .inl rfl
    | some k => exact .inr (fun e => by simp only [Option.some.injEq] at e; have := (h.lt k hv).1; omega))

theorem StIn.grown {w w3 : World} {g0 : Nat} {s : MS} {o : Obj} {row : Option Nat} (h : StIn w g0 s) (hg : (w.alloc o).grownBy w3 row) (hne : some g0 ≠ row) : StIn w3 g0 s := by
  have h1 := h.alloc o
  exact ⟨(hg.block g0 h1.lt hne).trans h1.blk, h.ok⟩
theorem digV_snoc (l : List Nat) (t : Nat) : digV l ++ [Value.int .u8 (48 + (t : Int))] = digV (l ++ [t]) := by simp [digV]

set_option maxRecDepth 100000 in
set_option maxHeartbeats 8000000 in
theorem Run_any (V : Value) (W0 : Wd) (I0 : W0.Inv) (picks : ByteArray) (w : World) (B : Nat) (hp : ProgIn w B V (progL W0)) :
    Calls Tryd.prog 27 #[.agg #[V], .agg (msOf W0).cells, .string picks] w fun e w' => e = .returned (.tuple #[.string (digS (resumeL picks 61 W0 []).1), .int .i64 (resumeL picks 61 W0 []).2]) ∧ Below w.heap.size w w' := by
  have HP : Hid (ProgIn w B V (progL W0)) := hp
  have hst0 : StIn (boxes w V (msOf W0)) (w.heap.size + 1) (msOf W0) := ⟨heap_alloc2_new _ _ _, msOf_ok I0.good⟩
  have hc0 : (boxes w V (msOf W0)).cell? ⟨w.heap.size, 0, none⟩ = some V := cellB (heap_alloc2_old _ _ _) rfl
  have hbs : (boxes w V (msOf W0)).heap.size = w.heap.size + 2 := by simp
  generalize hres : resumeL picks 61 W0 [] = res
  have HR0 : Hid (resumeL picks 61 W0 [] = res) := hres
  clear hp hres
  go_enter Tryd.func27, Tryd.ntmps27
  go_wp2
  go_loopw [8] (fun v wr => ∃ (W : Wd) (out : List Nat) (g cap : Nat), v = .slice (some ⟨g, 0, none⟩) out.length cap ∧ wr.ownsRow (w.heap.size + 2) 5 1 (.slice (some ⟨g, 0, none⟩) out.length cap) out.length (digV out) ∧ Hid (resumeL picks (61 - out.length) W out = res) ∧ out.length ≤ W.log.length ∧ W.Inv ∧ progL W = progL W0 ∧ StIn wr (w.heap.size + 1) (msOf W) ∧ wr.cell? ⟨w.heap.size, 0, none⟩ = some V ∧ Below w.heap.size w wr) (fun v _ => 61 - sliceLen v)
  case atStart =>
    refine ⟨W0, [], w.heap.size + 2, 0, rfl, ?_, HR0, Nat.zero_le _, I0, rfl, hst0.alloc _, cell_later ((Below.refl _ _).alloc (Nat.le_refl _) _) hc0, ?_⟩
    · have h := World.ownsRow_lit (boxes w V (msOf W0)) (base := w.heap.size + 2) (e := 5) (size := 1) #[] 0 (by simp) (Nat.zero_le _) rfl
      simpa [digV] using h
    · exact (two_new ((Below.refl _ _).alloc (Nat.le_refl _) _)).2.2.1
  case round =>
    obtain ⟨W, out, g, cap, rfl, hown, HE, hol, I, HPL, hsr, p0, hBr⟩ := hrel
    have HPL' : Hid (progL W = progL W0) := HPL
    clear HPL hst0 hc0 hbs HR0
    have h60 := I.small
    have h5 := I.good.n5
    have hpr : ProgIn wr B V (progL W) := by rw [HPL'.out]; exact HP.out.below hBr
    have HE2 : Hid (resumeL picks ((60 - out.length) + 1) W out = res) := by rw [← HE.out, Hid]; congr 1; omega
    clear HE
    have hLM := listMovers_any V (progL W) (msOf W) (msOf_ok I.good) wr B hpr (progL_po I.good)
    rw [progL_len] at hLM
    have hmv : (mayLoop W 0 [] false).1 = moversL (progL W) (msOf W) W.prog.length := movers_sim I.good _ 0 false rfl (Nat.zero_le _)
    have hmem := mayLoop_mem W _ 0 [] false rfl (by simp)
    have hres : res = _ := HE2.out.symm.trans (by rw [resumeL])
    rw [hmv] at hres hmem
    have hno := movers_none I.good
    have hmv5 : (moversL (progL W) (msOf W) W.prog.length).length ≤ 5 := Nat.le_trans (moversL_len _ _ _) h5
    have hgl := hown.lt g rfl
    have hld := hsr.loadS
    generalize moversL (progL W) (msOf W) W.prog.length = mv at *
    by_cases hl0 : mv = []
    · have hend : endL (progL W) (msOf W) 0 = if (mayLoop W 0 [] false).2 = true then 2 else 1 := by
        exact end_sim I.good _ 0 [] rfl (hno hl0)
      rw [if_pos hl0, ← hend] at hres
      subst hl0
      have HRES : Hid (res = (out, endL (progL W) (msOf W) 0)) := hres
      have hEn := fun w' hw => endOf_any V (progL W) (msOf W) (msOf_ok I.good) w' B (hpr.below (w' := w') hw) (progL_po I.good)
      generalize endL (progL W) (msOf W) 0 = en at *
      clear hres hend hmem hmv HE2 hno
      go_wp2_with (first
        | (go_at_call 41; refine hLM.mono ?_; rintro e w1 ⟨v1, rfl, ⟨g1, cap1, rfl, ho1⟩, hb1⟩; have p1 := cell_later hb1 p0; have hs1 := hsr.below hb1; have hld1 := hs1.loadS; have hown1 := hown.kept (grownBy_of_below hb1) (.inr (by simp [Value.ownBlock])); have hcv1 := conv_dig hown1))
      go_region_held3 (fun w' => (convert 47 9 (.slice (some ⟨g, 0, none⟩) out.length cap)).run Tryd.prog w' = .ok (.string (digS out)) w' ∧ w'.cell? ⟨w.heap.size, 0, none⟩ = some V ∧ (loadS (.pointer (some ⟨w.heap.size + 1, 0, none⟩))).run Tryd.prog w' = .ok (.agg (msOf W).cells) w')
        (first | exact ⟨hcv1, p1, hld1⟩ | (refine ⟨conv_dig (hown1.kept (grownBy_of_below ?_) (.inr (by simp [Value.ownBlock]))), cell_later ?_ p1, (hs1.below ?_).loadS⟩ <;> first | exact Below.refl _ _ | exact (Below.refl _ _).drew | exact hx1 | exact hx1.drew) | go_keep)
        (first | (go_at_call 42; refine (hEn _ (by first | exact hb1 | exact hb1.drew)).mono ?_; rintro e w2 ⟨rfl, hbb⟩; have hx1 : Below w1.heap.size w1 w2 := (by first | exact hbb | exact below_of_drew hbb)))
      go_wp2
      go_ret2
      exact ⟨by rw [HRES.out]; rfl, (hBr.trans ((hb1.trans (hx1.mono hb1.size)).mono hBr.size))⟩
    · rw [if_neg hl0] at hres
      have hlp : 0 < mv.length := by cases mv with | nil => exact absurd rfl hl0 | cons _ _ => simp
      obtain ⟨k, hk⟩ : ∃ k, k = (byteI picks out.length).toNat % mv.length := ⟨_, rfl⟩
      have hkl : k < mv.length := by rw [hk]; exact Nat.mod_lt _ hlp
      rw [← hk] at hres
      have hgd : mv.getD k 0 = mv[k] := by simp [hkl]
      rw [hgd] at hres
      have hx := hmem mv[k] (by simp)
      have hb0 := byteI_lo picks out.length
      have hb9 := byteI_hi picks out.length
      have hmod : byteI picks out.length % (mv.length : Int) = (k : Int) := by
        rw [hk]; simp [Int.natCast_emod, Int.toNat_of_nonneg hb0]
      have hcell : ∀ (w' : World) (B' : Nat) (v : Value) (g1 cap1 : Nat), v = .slice (some ⟨g1, 0, none⟩) mv.length cap1 → w'.ownsRow B' 3 1 v mv.length (mv.map fun (n : Nat) => Value.int .i64 (n : Int)) → w'.cell? ⟨g1, k, none⟩ = some (.int .i64 mv[k]) := by
        intro w' B' v g1 cap1 hv ho
        subst hv
        rw [ho.cellAt k (by omega)]
        simp [hkl]
      obtain ⟨tt, htt0⟩ : ∃ tt, mv[k] = tt := ⟨_, rfl⟩
      rw [htt0] at hx hres hcell
      obtain ⟨htt, hst2⟩ := hx
      have hSS := step_sim I htt
      have hMv := fun w' hw => Move_any V (progL W) (msOf W) (msOf_ok I.good) w' B (hpr.below (w' := w') hw) (progL_po I.good) (tt : Int)
      rw [hSS] at hMv
      have HRES : Hid (res = if stateOf W tt = 5 then (out, 3) else resumeL picks (60 - out.length) (moveT W tt) (out ++ [tt])) := hres
      clear hres hmem hmv hno HE2 hgd htt0 hk hSS hl0
      by_cases h5' : stateOf W tt = 5
      · have HR2 : Hid (res = (out, 3)) := by rw [Hid, HRES.out, if_pos h5']
        rw [if_neg (by omega)] at hMv
        have okW := msOf_ok I.good
        clear HRES
        go_wp2_with (first
          | (go_at_call 41; refine hLM.mono ?_; rintro e w1 ⟨v1, rfl, ⟨g1, cap1, hv1, ho1⟩, hb1⟩; have k1 := hcell _ _ _ _ _ hv1 ho1; subst hv1; have p1 := cell_later hb1 p0; have hs1 := hsr.below hb1; have hld1 := hs1.loadS; have hown1 := hown.kept (grownBy_of_below hb1) (.inr (by simp [Value.ownBlock])))
          | (go_at_call 43; refine (pickAt_any picks out.length _ rfl _).mono ?_; rintro e w5 ⟨rfl, hw⟩; have hw2 := hw.symm; clear hw; subst hw2)
          | (go_at_call 44; refine (hMv _ hb1).mono ?_; rintro e w2 ⟨he, hb2⟩; rw [stepV, moveV] at he; subst he; have hstN := storeS_run (s := msOf W) (heap_alloc_new w2 (.cells zeroS 79)) rfl okW; have hb12 := hb1.trans (hb2.mono hb1.size); have hbN := Below.setRow (hb2.alloc hb2.size (.cells zeroS 79)) hb2.size (msOf W).cells; have hcvN := conv_dig (hown1.kept (grownBy_of_below hbN) (.inr (by simp [Value.ownBlock])))))
        go_ret2
        exact ⟨by rw [HR2.out]; rfl, hBr.trans ((hb1.trans (hbN.mono hb1.size)).mono hBr.size)⟩
      · have h1' : stateOf W tt = 1 := by omega
        have HR2 : Hid (resumeL picks (61 - (out ++ [tt]).length) (moveT W tt) (out ++ [tt]) = res) := by
          rw [Hid, HRES.out, if_neg h5']; congr 1; simp
        rw [if_pos h1'] at hMv
        have I2 := moveT_inv I htt h1'
        have okW := msOf_ok I2.good
        have okW0 := msOf_ok I.good
        have hlg := moveT_log (W := W) tt
        have HPL2 : Hid (progL (moveT W tt) = progL W0) := by rw [Hid, progL_move]; exact HPL'.out
        clear HRES
        obtain ⟨s', hs'⟩ : ∃ s', msOf (moveT W tt) = s' := ⟨_, rfl⟩
        rw [hs'] at hMv okW
        have HS : Hid (msOf (moveT W tt) = s') := hs'
        clear hs'
        go_wp2_with (first
          | (go_at_call 41; refine hLM.mono ?_; rintro e w1 ⟨v1, rfl, ⟨g1, cap1, hv1, ho1⟩, hb1⟩; have k1 := hcell _ _ _ _ _ hv1 ho1; subst hv1; have p1 := cell_later hb1 p0; have hs1 := hsr.below hb1; have hld1 := hs1.loadS; have hown1 := hown.kept (grownBy_of_below hb1) (.inr (by simp [Value.ownBlock])))
          | (go_at_call 43; refine (pickAt_any picks out.length _ rfl _).mono ?_; rintro e w5 ⟨rfl, hw⟩; have hw2 := hw.symm; clear hw; subst hw2)
          | (go_at_call 44; refine (hMv _ hb1).mono ?_; rintro e w2 ⟨he, hb2⟩; rw [stepV, moveV] at he; subst he; have hstN := storeS_run (s := s') (heap_alloc_new w2 (.cells zeroS 79)) rfl okW; have hbN := Below.setRow (hb2.alloc hb2.size (.cells zeroS 79)) hb2.size s'.cells; have hownN := hown1.kept (grownBy_of_below hbN) (.inr (by simp [Value.ownBlock])))
          | (at_builtin; go_loud (refine wpList_appendLit _ rfl _ _ 47 rfl (w.heap.size + 2) 5 (.int .u8 0) 1 1 Tryd.underlying47 infoU8 rfl (by decide) _ _ _ rfl hownN _ (w2.heap.size + 1) (by simp) rfl rfl ?c2 ?c3 ?c4 ?c5 ?_)))
        case c2 => rfl
        case c3 => omega
        case c4 => omega
        case c5 => have := hBr.size; have := hb1.size; have := hbN.size; omega
        intro v' w3 ho3 hg3 hf3 hn3
        have hX11 : StIn ((w2.alloc (.cells zeroS 79)).setRow w2.heap.size s'.cells) w2.heap.size s' := StIn.setRow (heap_alloc_new w2 _) okW
        have hX4 := hs1.below hbN
        have pX := cell_later hbN p1
        have hsz1 := hb1.size
        have hsz2 := hb2.size
        have hs11 := hX11.grown hg3 (by simp [Value.ownBlock]; omega)
        have hs4 := hX4.grown hg3 (by simp [Value.ownBlock]; omega)
        have p3 := cell_append1 hg3 pX (by simp [Value.ownBlock]; omega)
        have hBX := hBr.trans ((hb1.trans (hbN.mono hb1.size)).mono hBr.size)
        have hB3 := below_grown (hBX.alloc hBX.size _) (by have := hBX.size; simp; omega) hg3 (fun k hk => by simp [Value.ownBlock] at hk; omega)
        obtain ⟨g', cap', hv3⟩ := row_form ho3 hn3
        subst hv3
        have hldN := hs11.loadS
        have hstM := storeS_run hs4.blk (MS.cells_size okW0) okW
        clear hg3 hf3 hn3 hX11 hX4 pX hown hown1 hownN hstN hcell hmod hMv hLM hld hld1
        go_wp2
        go_roundw
        case rel =>
          refine ⟨moveT W tt, out ++ [tt], g', cap', by simp, ?_, HR2, by rw [hlg]; simp; omega, I2, HPL2.out, ?_, ?_, Below.setRow hB3 (by omega) _⟩
          · rw [← digV_snoc]
            have := ownsRow_setRow ho3 (show w.heap.size + 1 < w.heap.size + 2 by omega) s'.cells
            simpa using this
          · rw [HS.out]; exact StIn.setRow hs4.blk okW
          · rw [cell_setRow_other _ _ _ _ (show w.heap.size ≠ w.heap.size + 1 by omega)]; exact p3
        case measure => simp [sliceLen]; omega
end Go.Proofs.YtdfndcbakcmgiabDoor
namespace Go.Proofs.YtdfndcbakcmgiabDoor
open Go.RowKit
attribute [local go_sem ↓] loadS_fold storeS_fold zeroS_fold

theorem info1 : (Tryd.prog.info? 60).map (·.size) = some 1 := by
  have h := Tryd.sizeOf60 { heap := #[], tape := default, drawn := default, os := default, output := default }
  generalize Tryd.prog = P at *
  cases hq : P.info? 60 with
  | none => simp [sizeOf, typeInfo, hq] at h
  | some i => simp [sizeOf, typeInfo, hq] at h; simp [h]
theorem results_PS {fn : Func} (h : fn.results = #[.cell 4 60, .cell 5 79, .tmp 6]) (tmps : Array Value) (w : World) (g4 g5 : Nat) (u v : Value) (s : MS) (h4 : tmps.getD 4 undef = .pointer (some ⟨g4, 0, none⟩)) (h5 : tmps.getD 5 undef = .pointer (some ⟨g5, 0, none⟩)) (hv : tmps.getD 6 undef = v)
    (b4 : w.heap[g4]? = some (.cells #[u] 60 (0, 0))) (hs : StIn w g5 s) :
    (results fn tmps).run Tryd.prog w = .ok (.tuple #[.agg #[u], .agg s.cells, v]) w := by
  have hl := loadVar22 hs.blk (MS.cells_size hs.ok)
  have hl4 := run_loadVar_row (P := Tryd.prog) w g4 _ 60 #[u] _ _ b4 Tryd.underlying60 rfl info1
  have h4' : tmps[4]?.getD undef = .pointer (some ⟨g4, 0, none⟩) := by simpa using h4
  have h5' : tmps[5]?.getD undef = .pointer (some ⟨g5, 0, none⟩) := by simpa using h5
  have hv' : tmps[6]?.getD undef = v := by simpa using hv
  simp [results, h, h4', h5', hv', asAddr, hl, hl4]

def noneV (e : Int) : Value := .tuple #[.agg #[.slice none 0 0], .agg zeroM.cells, .int .i64 e]
abbrev twoV (w : World) : World := (w.alloc (.cells #[.slice none 0 0] 60)).alloc (.cells zeroS 79)

/-- What stands behind the reading. -/
structure FIn (w wc : World) (q : Nat) (V : Value) : Prop where
  b4 : wc.heap[w.heap.size]? = some (.cells #[.slice none 0 0] 60 (0, 0))
  b5 : wc.heap[w.heap.size + 1]? = some (.cells zeroS 79 (0, 0))
  k : wc.heap[q]? = some (.cells #[V] 60 (0, 0))
  hq : w.heap.size + 2 ≤ q
  hB : Below w.heap.size w wc

/-- The error's way out: two zero values are stored. -/
theorem out_none {w wc : World} {q : Nat} {V : Value} (F : FIn w wc q V) :
    wc.cell? ⟨w.heap.size, 0, none⟩ = some (.slice none 0 0) ∧ wc.frozen? ⟨w.heap.size, 0, none⟩ = false ∧
    (storeS (.pointer (some ⟨w.heap.size + 1, 0, none⟩)) (.agg zeroS)).run Tryd.prog (wc.setCell ⟨w.heap.size, 0, none⟩ (.slice none 0 0)) = .ok () ((wc.setCell ⟨w.heap.size, 0, none⟩ (.slice none 0 0)).setRow (w.heap.size + 1) zeroS) ∧
    ((wc.setCell ⟨w.heap.size, 0, none⟩ (.slice none 0 0)).setRow (w.heap.size + 1) zeroS).heap[w.heap.size]? = some (.cells #[.slice none 0 0] 60 (0, 0)) ∧
    StIn ((wc.setCell ⟨w.heap.size, 0, none⟩ (.slice none 0 0)).setRow (w.heap.size + 1) zeroS) (w.heap.size + 1) zeroM ∧
    Below w.heap.size w ((wc.setCell ⟨w.heap.size, 0, none⟩ (.slice none 0 0)).setRow (w.heap.size + 1) zeroS) := by
  have h5 : (wc.setCell ⟨w.heap.size, 0, none⟩ (.slice none 0 0)).heap[w.heap.size + 1]? = some (.cells zeroS 79 (0, 0)) := by
    rw [heap_setCell_other _ _ _ _ (by simp)]; exact F.b5
  have hst := storeS_run (s := zeroM) h5 rfl (firstK_ok _ _ (by omega))
  have hfi := StIn.setRow (s := zeroM) h5 (firstK_ok _ _ (by omega))
  have hz : zeroM.cells = zeroS := zero_firstK
  rw [hz] at hst hfi
  refine ⟨cellB F.b4 rfl, frozen_of_row _ _ _ _ _ F.b4, hst, ?_, hfi, ?_⟩
  · rw [setRow_other _ _ _ _ (by omega)]
    exact heap_setCell_same _ _ _ _ _ _ F.b4
  · exact Below.setRow (F.hB.setCell (Nat.le_refl _) _) (by omega) _

set_option maxRecDepth 100000 in
set_option maxHeartbeats 2000000 in
theorem follow_err (s sch : ByteArray) (w : World) (h : (ckP s).1 ≠ 0) :
    Calls Tryd.prog 26 #[.string s, .string sch] w fun e w' => e = .returned (noneV (ckP s).1) ∧ Below w.heap.size w w' := by
  have hR := Read_any s (twoV w)
  rw [read_eq s] at hR
  generalize (ckP s).1 = a at *
  generalize (ckP s).2 = b at *
  have ha : (a != 0) = true := by simpa using h
  have hs2 : (twoV w).heap.size = w.heap.size + 2 := by simp
  go_enter Tryd.func26, Tryd.ntmps26
  go_upto_region 1 with fail
  go_cut [7, 8, 9] (fun p x y wc => ∃ q V, p = .pointer (some ⟨q, 0, none⟩) ∧ x = .int .i64 a ∧ y = .int .i64 b ∧ FIn w wc q V)
  case first =>
    go_wp2_with (first | (go_at_call 22; refine hR.mono ?_; rintro e w1 ⟨a1, n1, c1, rfl, hb, _⟩; obtain ⟨b4, b5, hB, hs3⟩ := two_new hb))
    go_meet
    case rel =>
      exact ⟨_, _, rfl, rfl, rfl, by rw [heap_alloc_old _ _ (by omega)]; exact b4, by rw [heap_alloc_old _ _ (by omega)]; exact b5, heap_alloc_new _ _, hs3, hB.alloc hB.size _⟩
  case rest =>
    obtain ⟨q, V, rfl, rfl, rfl, F⟩ := hcut
    obtain ⟨e4, z4, hst, f4, f5, hBf⟩ := out_none F
    clear hR
    go_wp2
    exact bodyPost_ret (v := noneV a) (results_PS Tryd.results26 _ _ w.heap.size (w.heap.size + 1) _ _ zeroM rfl rfl rfl f4 f5) rfl ⟨rfl, hBf⟩

theorem FIn.below {w wc w' : World} {q : Nat} {V : Value} (F : FIn w wc q V) (hb : Below wc.heap.size wc w') : FIn w w' q V where
  b4 := (hb.block _ (Array.getElem?_eq_some_iff.1 F.b4).1).trans F.b4
  b5 := (hb.block _ (Array.getElem?_eq_some_iff.1 F.b5).1).trans F.b5
  k := (hb.block _ (Array.getElem?_eq_some_iff.1 F.k).1).trans F.k
  hq := F.hq
  hB := F.hB.trans (hb.mono F.hB.size)

theorem progL_begin (s : ByteArray) (h : (ckP s).1 = 0) : (readP s).1 = progL (beginW (thLoop s 0 0 [])) := by
  rw [readP_threads s (by rw [read_eq]; exact h)]
  simp [parse, progL, beginW, madeW, Function.comp_def]
theorem begin_first (s : ByteArray) (h : (ckP s).1 = 0) : firstM = msOf (beginW (thLoop s 0 0 [])) := by
  have I := begin_inv s h
  have hl : (beginW (thLoop s 0 0 [])).prog.length = (thLoop s 0 0 []).length := by simp [beginW, madeW]
  exact first_sim _ (thLoop_pos s _ 0 0 [] rfl) (by rw [← hl]; exact I.good.n5)

set_option maxRecDepth 100000 in
set_option maxHeartbeats 2000000 in
theorem follow_none (s sch : ByteArray) (hsch : sch.size ≤ maxLen) (w : World) (h : (ckP s).1 = 0) (hW : toLoop sch (beginW (thLoop s 0 0 [])) 0 = none) :
    Calls Tryd.prog 26 #[.string s, .string sch] w fun e w' => e = .returned (noneV 5) ∧ Below w.heap.size w w' := by
  have hR := Read_any s (twoV w)
  have I0 := begin_inv s h
  rw [progL_begin s h, read_eq s, h] at hR
  have hF : followM (progL (beginW (thLoop s 0 0 []))) sch firstM 0 = none := by
    rw [begin_first s h, follow_sim sch _ 0 _ rfl I0, hW]; rfl
  generalize beginW (thLoop s 0 0 []) = W0 at *
  generalize (ckP s).2 = b at *
  have hFo := fun V w' (hp : ProgIn w' w.heap.size V (progL W0)) => Follow_any V (progL W0) sch hsch w' w.heap.size hp (progL_po I0.good)
  rw [hF] at hFo
  have hs2 : (twoV w).heap.size = w.heap.size + 2 := by simp
  go_enter Tryd.func26, Tryd.ntmps26
  go_upto_region 1 with fail
  go_cut [7, 8, 9] (fun p x y wc => ∃ q V, p = .pointer (some ⟨q, 0, none⟩) ∧ x = .int .i64 0 ∧ y = .int .i64 b ∧ FIn w wc q V ∧ ProgIn wc w.heap.size V (progL W0))
  case first =>
    go_wp2_with (first | (go_at_call 22; refine hR.mono ?_; rintro e w1 ⟨a1, n1, c1, rfl, hb, hpp⟩; obtain ⟨b4, b5, hB, hs3⟩ := two_new hb; have hpp2 := (hpp rfl).mono (B' := w.heap.size) (by rw [hs2]; omega)))
    go_meet
    case rel =>
      exact ⟨_, _, rfl, rfl, rfl, ⟨by rw [heap_alloc_old _ _ (by omega)]; exact b4, by rw [heap_alloc_old _ _ (by omega)]; exact b5, heap_alloc_new _ _, hs3, hB.alloc hB.size _⟩, hpp2.alloc _⟩
  case rest =>
    obtain ⟨q, V, rfl, rfl, rfl, F, hP⟩ := hcut
    have kq : wc.cell? ⟨q, 0, none⟩ = some V := cellB F.k rfl
    have hF2 := hFo V wc hP
    rw [followV] at hF2
    clear hR hFo
    go_upto_region 5 with (first | (go_at_call 40; refine hF2.mono ?_; rintro e w2 ⟨rfl, hb2⟩; have hstN := storeS_run (s := zeroM) (heap_alloc_new w2 (.cells zeroS 79)) rfl (firstK_ok _ _ (by omega)); have hbN := Below.setRow (hb2.alloc hb2.size (.cells zeroS 79)) hb2.size zeroM.cells; obtain ⟨e4, z4, hst, f4, f5, hBf⟩ := out_none (F.below hbN)))
    go_wp2
    exact bodyPost_ret (v := noneV 5) (results_PS Tryd.results26 _ _ w.heap.size (w.heap.size + 1) _ _ zeroM rfl rfl rfl f4 f5) rfl ⟨rfl, hBf⟩

set_option maxRecDepth 100000 in
set_option maxHeartbeats 2000000 in
theorem follow_ok (s sch : ByteArray) (hsch : sch.size ≤ maxLen) (w : World) (h : (ckP s).1 = 0) (W : Wd) (hW : toLoop sch (beginW (thLoop s 0 0 [])) 0 = some W) (IW : W.Inv) :
    Calls Tryd.prog 26 #[.string s, .string sch] w fun e w' => ∃ V, e = .returned (.tuple #[.agg #[V], .agg (msOf W).cells, .int .i64 0]) ∧ Below w.heap.size w w' ∧ ProgIn w' w.heap.size V (progL (beginW (thLoop s 0 0 []))) := by
  have hR := Read_any s (twoV w)
  have I0 := begin_inv s h
  rw [progL_begin s h, read_eq s, h] at hR
  have hF : followM (progL (beginW (thLoop s 0 0 []))) sch firstM 0 = some (msOf W) := by
    rw [begin_first s h, follow_sim sch _ 0 _ rfl I0, hW]; rfl
  generalize beginW (thLoop s 0 0 []) = W0 at *
  generalize (ckP s).2 = b at *
  have hFo := fun V w' (hp : ProgIn w' (w.heap.size + 2) V (progL W0)) => Follow_any V (progL W0) sch hsch w' (w.heap.size + 2) hp (progL_po I0.good)
  rw [hF] at hFo
  have okW := msOf_ok IW.good
  generalize msOf W = sW at *
  have hs2 : (twoV w).heap.size = w.heap.size + 2 := by simp
  go_enter Tryd.func26, Tryd.ntmps26
  go_upto_region 1 with fail
  go_cut [7, 8, 9] (fun p x y wc => ∃ q V, p = .pointer (some ⟨q, 0, none⟩) ∧ x = .int .i64 0 ∧ y = .int .i64 b ∧ FIn w wc q V ∧ ProgIn wc (w.heap.size + 2) V (progL W0))
  case first =>
    go_wp2_with (first | (go_at_call 22; refine hR.mono ?_; rintro e w1 ⟨a1, n1, c1, rfl, hb, hpp⟩; obtain ⟨b4, b5, hB, hs3⟩ := two_new hb; have hpp2 := (hpp rfl).mono (B' := w.heap.size + 2) (by rw [hs2]; omega)))
    go_meet
    case rel =>
      exact ⟨_, _, rfl, rfl, rfl, ⟨by rw [heap_alloc_old _ _ (by omega)]; exact b4, by rw [heap_alloc_old _ _ (by omega)]; exact b5, heap_alloc_new _ _, hs3, hB.alloc hB.size _⟩, hpp2.alloc _⟩
  case rest =>
    obtain ⟨q, V, rfl, rfl, rfl, F, hP⟩ := hcut
    have kq : wc.cell? ⟨q, 0, none⟩ = some V := cellB F.k rfl
    have hF2 := hFo V wc hP
    rw [followV] at hF2
    clear hR hFo
    obtain ⟨gg, cc, hVe, _⟩ := id hP
    subst hVe
    go_upto_region 7 with (first | (go_at_call 40; refine hF2.mono ?_; rintro e w2 ⟨rfl, hb2⟩; have hstN := storeS_run (s := sW) (heap_alloc_new w2 (.cells zeroS 79)) rfl okW; have hbN := Below.setRow (hb2.alloc hb2.size (.cells zeroS 79)) hb2.size sW.cells))
    have F2 := F.below hbN
    have hPX := hP.below hbN
    have hX10 : StIn ((w2.alloc (.cells zeroS 79)).setRow w2.heap.size sW.cells) w2.heap.size sW := StIn.setRow (heap_alloc_new w2 _) okW
    generalize ((w2.alloc (.cells zeroS 79)).setRow w2.heap.size sW.cells) = X at *
    have hq2 := F.hq
    have hw2 : wc.heap.size ≤ w2.heap.size := hb2.size
    have hqw : q < wc.heap.size := (Array.getElem?_eq_some_iff.1 F.k).1
    have kX : X.cell? ⟨q, 0, none⟩ = some (.slice (some ⟨gg, 0, none⟩) (progL W0).length cc) := cellB F2.k rfl
    have e4 : X.cell? ⟨w.heap.size, 0, none⟩ = some (.slice none 0 0) := cellB F2.b4 rfl
    have z4 : X.frozen? ⟨w.heap.size, 0, none⟩ = false := frozen_of_row _ _ _ _ _ F2.b4
    have hl1 := hX10.drew.loadS
    have hs1 : StIn ((X.setCell ⟨w.heap.size, 0, none⟩ (.slice (some ⟨gg, 0, none⟩) (progL W0).length cc)).drew) w2.heap.size sW := ⟨by rw [heap_drew, heap_setCell_other _ _ _ _ (by simp; omega)]; exact hX10.blk, okW⟩
    have hl2 := hs1.loadS
    have b5 : (X.setCell ⟨w.heap.size, 0, none⟩ (.slice (some ⟨gg, 0, none⟩) (progL W0).length cc)).drew.heap[w.heap.size + 1]? = some (.cells zeroS 79 (0, 0)) := by
      rw [heap_drew, heap_setCell_other _ _ _ _ (by simp)]; exact F2.b5
    have hst := storeS_run (s := sW) b5 rfl okW
    have f5 := StIn.setRow b5 okW
    have f4 : ((X.setCell ⟨w.heap.size, 0, none⟩ (.slice (some ⟨gg, 0, none⟩) (progL W0).length cc)).drew.setRow (w.heap.size + 1) sW.cells).heap[w.heap.size]? = some (.cells #[.slice (some ⟨gg, 0, none⟩) (progL W0).length cc] 60 (0, 0)) := by
      rw [setRow_other _ _ _ _ (by omega)]
      exact heap_setCell_same X w.heap.size 0 _ _ _ F2.b4
    have hBf : Below w.heap.size w ((X.setCell ⟨w.heap.size, 0, none⟩ (.slice (some ⟨gg, 0, none⟩) (progL W0).length cc)).drew.setRow (w.heap.size + 1) sW.cells) := Below.setRow (F2.hB.setCell (Nat.le_refl _) _).drew (by omega) _
    have hPf : ProgIn ((X.setCell ⟨w.heap.size, 0, none⟩ (.slice (some ⟨gg, 0, none⟩) (progL W0).length cc)).drew.setRow (w.heap.size + 1) sW.cells) (w.heap.size + 2) (.slice (some ⟨gg, 0, none⟩) (progL W0).length cc) (progL W0) := hPX.kept (fun k hk _ => by rw [setRow_other _ _ _ _ (by omega), heap_drew, heap_setCell_other _ _ _ _ (by simp; omega)])
    clear hstN hF2
    go_region
    all_goals
      go_wp2
      exact bodyPost_ret (v := .tuple #[.agg #[.slice (some ⟨gg, 0, none⟩) (progL W0).length cc], .agg sW.cells, .int .i64 0]) (results_PS Tryd.results26 _ _ w.heap.size (w.heap.size + 1) _ _ sW rfl rfl rfl f4 f5) rfl ⟨_, rfl, hBf, hPf.mono (by omega)⟩
end Go.Proofs.YtdfndcbakcmgiabDoor
