import Derived.Test.YtfdbnilopfnifaaT30
import Derived.Test.YtfdbnilopfnifaaE21
namespace Go.Proofs.Ytfdbnilopfnifaa
open Go.RowKit

set_option maxRecDepth 100000 in
set_option maxHeartbeats 8000000 in
theorem Closed_in (s picks : ByteArray) (a : Option Addr) (ca : Nat) (raw : List Int) (hraw : raw.length * 8 ≤ 140737488355328) (hwf : ∀ x ∈ raw, -9223372036854775808 ≤ x ∧ x ≤ 9223372036854775807) (w : World) (hA : IntsAt w a raw) (h0 : (ckP s).1 = 0) :
    Calls Try.prog 12 #[.string s, .string picks, .slice a raw.length ca] w fun e w' => e = .returned (.bool true) ∧ Below w.heap.size w w' := by
  have I0 := begin_inv s h0
  obtain ⟨ms, how, WE, hr⟩ := runs_ex picks _ (beginW (thLoop s 0 0 [])) 0 I0 rfl
  have hlen := hr.len I0
  have hsm := hr.small I0.good.n5
  have hsm' : ∀ t ∈ ms, t ≤ 100 := fun t ht => by have := hsm t ht; omega
  have hE := hr.ends I0
  have hto0 : toLoop ⟨#[]⟩ (beginW (thLoop s 0 0 [])) 0 = some (beginW (thLoop s 0 0 [])) := by rw [toLoop, if_neg (by simp [ByteArray.size])]
  have hV : resumeV s ⟨#[]⟩ picks = .tuple #[.string (digS ms), .int .i64 how, .int .i64 0] := by
    rw [resumeV, if_neg (by rw [h0]; decide), hto0]
    simp only [hr.resumeL 61 [] rfl (by omega), List.nil_append]
  have hRun := fun w => run_any s picks w
  rw [hV] at hRun
  have hIs := fun w => isProgram_yes s picks (digS ms) how w h0 hV hE.range.1 hE.range.2
  have hg := hr.goes
  have hto : toLoop (digS ms) (beginW (thLoop s 0 0 [])) 0 = some WE := by rw [toLoop_dig _ I0 _ hsm']; exact hg
  have hlg : WE.log.length = ms.length := by
    have := (log_of hg (begin_log _) ms.length (Nat.le_refl _)).1
    rw [worldAt_end hg] at this
    exact this
  have hsmP : ∀ t ∈ ms, t < WE.prog.length := fun t ht => by
    obtain ⟨j, hj, rfl⟩ := List.getElem_of_mem ht
    have h1 := (worldAt_step hg hj).1
    rw [(goL_inv _ _ _ I0 (worldAt_some hg j)).2, ← (goL_inv _ _ _ I0 hg).2] at h1
    simpa [thAt, hj] using h1
  have hszm : (digS ms).size ≤ maxLen := by rw [digS_size]; unfold maxLen; omega
  have hCl : ∀ (w : World) (b : Option Addr) (c n : Nat) (ev : List Int), ev.length ≤ maxLen → n = ev.length → inR WE.log.length ev → IntsAt w b ev → Calls Try.prog 28 #[.string s, .string (digS ms), .slice b n c] w fun e w' => Below w.heap.size w w' ∧ ∃ g' c' m, Hid (MidS WE.log (markE 60 ev) m ∧ ClosedS WE.log m ∧ InN WE.log.length m) ∧ e = .returned (.tuple #[.slice (some ⟨g', 0, none⟩) (listB m WE.log.length).length c', .int .i64 0]) ∧ w'.ownsRow w.heap.size 3 1 (.slice (some ⟨g', 0, none⟩) (listB m WE.log.length).length c') (listB m WE.log.length).length (intV (listB m WE.log.length)) := by
    intro w b c n ev h1 h2 h3 h4
    subst h2
    refine (close_ok s (digS ms) b c ev h1 hszm w h4 h0 WE hto).mono ?_
    rintro e w' ⟨hb, ⟨hno, _⟩ | ⟨_, g', c', m, h5, h6, _, he, ho⟩⟩
    · exact absurd h3 hno
    · exact ⟨hb, g', c', m, ⟨h5, h6, h5.inN (markE_inN h3)⟩, he, ho⟩
  have hRC : ∀ m, ClosedS WE.log m → InN WE.log.length m → RunClosed s ms WE (listB m WE.log.length) := fun m h1 h2 => runClosed_of s h0 ms WE hg hlen hsmP m h2 h1
  have hods := digS_size ms
  obtain ⟨i0, hi0, hz0, hz1, hz2⟩ := info_split infoInt
  have HLG : Hid (WE.log.length = ms.length) := hlg
  have HRAW : Hid (raw.length * 8 ≤ 140737488355328) := hraw
  have hrl : raw.length ≤ 17592186044416 := by omega
  clear hV hr hsm hsm' hE hto0 I0 hto hsmP hszm hg hlg hraw
  go_enter Try.func12, Try.ntmps12
  go_wp2_with (first
    | (go_at_call 35; refine (hIs _).mono ?_; rintro e w1 ⟨rfl, hb1⟩)
    | (go_at_call 16; refine (hRun _).mono ?_; rintro e w2 ⟨rfl, hb2⟩))
  have hB2 := hb1.trans (hb2.mono hb1.size)
  clear hIs hRun
  go_loopw [12, 13] (fun v y wr => ∃ (i : Nat) (ev : List Int), i ≤ raw.length ∧ y = .int .i64 (i : Int) ∧ ev.length = i ∧ inR ms.length ev ∧ wr.ownsRow w.heap.size 3 1 v ev.length (intZ ev) ∧ Below w.heap.size w wr) (fun _ y _ => raw.length - (intOf y).toNat)
  case atStart => exact ⟨0, [], Nat.zero_le _, rfl, rfl, by simp [inR], by simpa [intZ] using World.ownsRow_nil w2 w.heap.size 3 1, hB2⟩
  case round =>
    obtain ⟨i, ev, hi, rfl, hei, hinR, hown, hBr⟩ := hrel
    have HEI : Hid (ev.length = i) := hei
    have HIN : Hid (inR ms.length ev) := hinR
    clear hei hinR
    by_cases hgo : i < raw.length ∧ 0 < ms.length
    · obtain ⟨x, hx⟩ := get_some raw i hgo.1
      obtain ⟨g, o, e1, c1⟩ := hA i x hx
      subst e1
      have c1' := cell_later hBr c1
      have hxw := hwf x (List.mem_of_getElem? hx)
      have hPk := fun w => pick_any x hxw.1 hxw.2 ms.length hgo.2 (by omega) w
      have i0' : (0 : Int) ≤ (i : Int) := by omega
      have il : (i : Int) < (raw.length : Int) := by omega
      have dm : (0 : Int) < (ms.length : Int) := by omega
      have dm2 : 0 < ms.length := hgo.2
      have hszr := hBr.size
      clear hx
      go_wp2_with (first
        | (go_at_call 40; refine (hPk _).mono ?_; rintro e w3 ⟨⟨r, hr, rfl⟩, hw⟩; have hw2 := hw.symm; clear hw; subst hw2)
        | (at_builtin; go_loud (refine wpList_append_lies _ rfl _ _ 46 rfl w.heap.size 3 i0 (.int .i64 0) 1 8 Try.underlying46 hi0 hz0 hz1 hz2 rfl (by decide) _ ev.length (intZ ev) rfl (hown.alloc _) ⟨wr.heap.size, 0, none⟩ 1 1 [.int .i64 (r : Int)] rfl rfl (World.news_of_block (cs := #[.int .i64 (r : Int)]) (t := 3) (fr := (0, 0)) (heap_alloc_new wr _)) (by simp [Value.oneCell']) (by decide) ?c3 ?c4 ?c5 (wr.heap.size + 1) (by simp) ?_)))
      case c3 => have := HEI.out; unfold maxLen; omega
      case c4 => have := HEI.out; omega
      case c5 => simp; omega
      intro gg cap w4 hown4 hgrow hat hlt
      have hB4 : Below w.heap.size w w4 := below_grown (hBr.alloc hszr _) (by simp; omega) hgrow (fun k hk => (World.ownsRow.lt hown k hk).1)
      clear hgrow hat hlt hown
      go_wp2
      go_roundw
      case rel =>
        refine ⟨i + 1, ev ++ [(r : Int)], by omega, rfl, by rw [List.length_append, HEI.out]; rfl, ?_, ?_, hB4⟩
        · intro y hy
          rcases List.mem_append.1 hy with h | h
          · exact HIN.out y h
          · simp only [List.mem_singleton] at h; subst h; omega
        · simpa [intZ] using hown4
      case measure => (simp [intOf] <;> omega)
    · have hno : decide (i < raw.length) = false ∨ (decide (i < raw.length) = true ∧ decide (0 < ms.length) = false) := by
        by_cases h : i < raw.length
        · exact .inr ⟨decide_eq_true h, decide_eq_false (fun h2 => hgo ⟨h, h2⟩)⟩
        · exact .inl (decide_eq_false h)
      obtain ⟨b, c, hv⟩ := row_slice hown
      subst hv
      have hIe := intZ_row rfl hown
      have hC1 := hCl wr b c _ ev (by have := HEI.out; unfold maxLen; omega) rfl (by rw [HLG.out]; exact HIN.out) hIe
      have hbnd : ev.length ≤ 17592186044416 := by have := HEI.out; omega
      clear hgo hown hA hwf
      have hfin : ∀ (Q : Exit → Act → World → Prop), True := fun _ => trivial
      clear hfin
      rcases hno with hn1 | ⟨hn1, hn2⟩
      all_goals
        go_upto_region 13 with (first | (go_at_call 28; refine hC1.mono ?_; rintro e w3 ⟨hb3, gl, cl, m, HM, rfl, ho3⟩))
        have hB3 := hBr.trans (hb3.mono hBr.size)
        have hIl := intN_row ho3
        have hIe3 := hIe.below hb3
        have hLl : (listB m WE.log.length).length ≤ 60 := by have := listB_len m WE.log.length; have := HLG.out; omega
        have hmemE : ∀ y ∈ ev, y ∈ intN (listB m WE.log.length) := fun y hy => by
          have h1 := HIN.out y hy
          have h2 := HLG.out
          have h3 : (markE 60 ev)[y.toNat]? = some true := (markE_iff 60 ev _).2 ⟨by omega, y, hy, rfl⟩
          have h4 := HM.out.1.sub _ h3
          simp only [intN, List.mem_map]
          exact ⟨y.toNat, listB_mem.2 ⟨by omega, h4⟩, by omega⟩
        have RC := hRC m HM.out.2.1 HM.out.2.2
        have hC2 : ∀ (w : World) (b : Option Addr) (c : Nat), IntsAt w b (intN (listB m WE.log.length)) → Calls Try.prog 28 #[.string s, .string (digS ms), .slice b (listB m WE.log.length).length c] w fun e w' => Below w.heap.size w w' ∧ ∃ g' c', e = .returned (.tuple #[.slice (some ⟨g', 0, none⟩) (listB m WE.log.length).length c', .int .i64 0]) ∧ w'.ownsRow w.heap.size 3 1 (.slice (some ⟨g', 0, none⟩) (listB m WE.log.length).length c') (listB m WE.log.length).length (intV (listB m WE.log.length)) := fun w b c hI => by
          refine (hCl w b c _ (intN (listB m WE.log.length)) (by simp [intN]; unfold maxLen; omega) (by simp [intN]) (fun y hy => ?_) hI).mono ?_
          · simp only [intN, List.mem_map] at hy
            obtain ⟨z, hz, rfl⟩ := hy
            have := (listB_mem.1 hz).1
            omega
          · rintro e w' ⟨hb, g', c', m2, HM2, he, ho⟩
            have hu := midS_unique HM2.out.1 HM2.out.2.1 (midS_self HM.out.2.2 (by have := HLG.out; omega)) HM.out.2.1 WE.log.length
            rw [hu] at he ho
            exact ⟨hb, g', c', he, ho⟩
        have hHas := fun (x : Int) w' hA' => has_any (some ⟨gl, 0, none⟩) cl (intN (listB m WE.log.length)) (by simp [intN]; unfold maxLen; omega) x w' hA'
        have hln : (intN (listB m WE.log.length)).length = (listB m WE.log.length).length := by simp [intN]
        rw [hln] at hHas
        have hSm := fun (z : Option Addr) (cz : Nat) w' ha hb => sameInts_len (some ⟨gl, 0, none⟩) z cl cz (listB m WE.log.length).length (intN (listB m WE.log.length)) hln.symm (by rw [hln]; unfold maxLen; omega) w' ha hb
        have HWL : Hid (∀ w', Below w3.heap.size w3 w' → IntsAt w' (some ⟨gl, 0, none⟩) (intN (listB m WE.log.length))) := fun w' hb => hIl.below hb
        have hdn := fun c w' hI => RC.down (some ⟨gl, 0, none⟩) c _ w' rfl hI
        have hsd := fun c w' hI => RC.stands (some ⟨gl, 0, none⟩) c _ w' rfl hI
        generalize (listB m WE.log.length) = l at *
        have HEV : Hid (∀ y ∈ ev, y ∈ intN l) := hmemE
        clear hln hCl hRC HM hC1 ho3 RC hmemE
        go_wp2
        go_loopw [16] (fun y wq => ∃ k : Nat, k ≤ ev.length ∧ y = .int .i64 (k : Int) ∧ Below w3.heap.size w3 wq) (fun y _ => ev.length - (intOf y).toNat)
        case atStart => exact ⟨0, Nat.zero_le _, rfl, Below.refl _ _⟩
        case round =>
          obtain ⟨k, hk, rfl, hBq⟩ := hrel
          by_cases hke : k < ev.length
          · obtain ⟨y, hy⟩ := get_some ev k hke
            obtain ⟨g2, o2, e2, c2⟩ := hIe3 k y hy
            subst e2
            have c2' := cell_later hBq c2
            have hH := hHas y wr (HWL.out _ hBq)
            rw [decide_eq_true (HEV.out y (List.mem_of_getElem? hy))] at hH
            have k0 : (0 : Int) ≤ (k : Int) := by omega
            have kl : (k : Int) < (ev.length : Int) := by omega
            clear hy
            go_wp2_with (first | (go_at_call 41; refine hH.mono ?_; rintro e w4 ⟨rfl, hw⟩; have hw2 := hw.symm; clear hw; subst hw2))
            go_roundw
            case rel => exact ⟨k + 1, by omega, rfl, hBq⟩
            case measure => (simp [intOf] <;> omega)
          · have kl : ¬ (k : Int) < (ev.length : Int) := by omega
            have hD := hdn cl wr (HWL.out _ hBq)
            clear hIe3 hHas hIe
            go_upto_region 22 with (first | (go_at_call 42; refine hD.mono ?_; rintro e w5 ⟨rfl, hb5⟩))
            have hB5 := hBq.trans (hb5.mono hBq.size)
            have hC5 := hC2 w5 (some ⟨gl, 0, none⟩) cl (HWL.out _ hB5)
            go_upto_region 23 with (first | (go_at_call 28; refine hC5.mono ?_; rintro e w6 ⟨hb6, g6, c6, rfl, ho6⟩))
            have hB6 := hB5.trans (hb6.mono hB5.size)
            have hI6 := intN_row ho6
            have hS6 := hSm (some ⟨g6, 0, none⟩) c6 w6 (HWL.out _ hB6) hI6
            go_upto_region 26 with (first | (go_at_call 30; refine hS6.mono ?_; rintro e w7 ⟨rfl, hb7⟩))
            have hB7 := hB6.trans (hb7.mono hB6.size)
            have hS7 := hsd cl w7 (HWL.out _ hB7)
            go_wp2_with (first | (go_at_call 43; refine hS7.mono ?_; rintro e w8 ⟨rfl, hb8⟩))
            go_ret
            have hB8 := hB7.trans (hb8.mono hB7.size)
            exact ⟨rfl, hB3.trans (hB8.mono hB3.size)⟩

theorem Closed_out (s picks : ByteArray) (a : Option Addr) (n c : Nat) (w : World) (h : (ckP s).1 ≠ 0) :
    Calls Try.prog 12 #[.string s, .string picks, .slice a n c] w fun e w' => e = .returned (.bool true) ∧ Below w.heap.size w w' := by
  have hIs := fun w => isProgram_no s picks w h
  go_enter Try.func12, Try.ntmps12
  go_wp2_with (first
    | (go_at_call 35; refine (hIs _).mono ?_; rintro e w1 ⟨rfl, hb1⟩))
  go_ret
  exact ⟨rfl, hb1⟩
end Go.Proofs.Ytfdbnilopfnifaa
namespace Go.Proofs.Ytfdbnilopfnifaa
open Go.ChangeShapes Go.WideShapes Go.ChangeAt Go.RowKit
open Go.ChangeMaps (open_string shut_string)

theorem cellsIn : Try.prog.cellsOf 3 = 1 := by
  obtain ⟨i, h1, _, h2, _⟩ := info_split infoInt
  rw [Program.cellsOf, h1]; simp [h2]
theorem bytesIn : Try.prog.bytesOf 3 = 8 := by
  obtain ⟨i, h1, _, _, h3⟩ := info_split infoInt
  rw [Program.bytesOf, h1]; simp [h3]
theorem Closed_walk (s picks : ByteArray) (a : Option Addr) (ca : Nat) (raw : List Int) (hraw : raw.length * 8 ≤ 140737488355328) (hwf : ∀ x ∈ raw, -9223372036854775808 ≤ x ∧ x ≤ 9223372036854775807) (w : World) (hA : IntsAt w a raw) :
    Calls Try.prog 12 #[.string s, .string picks, .slice a raw.length ca] w fun e w' => e = .returned (.bool true) ∧ Below w.heap.size w w' := by
  by_cases h : (ckP s).1 ≠ 0
  · exact Closed_out s picks a _ ca w h
  · exact Closed_in s picks a ca raw hraw hwf w hA (by omega)

set_option maxRecDepth 100000 in
theorem Closed_lifted (os : Os) (started : os.Started) (H : Type) (enc : TypeId × Value → H) :
    ReturnsInHanded {} Try.checked os 12 .any (Rows.closedSpec.pre6 enc Try.prog Try.f12 Rows.closedRow.domain false) (Rows.closedSpec.post enc Try.prog Try.f12 false true false false) := by
  refine returnsInHanded_of_change_sized (C := Try.checked) Try.own started (by kernel_rfl) Try.func12
    (ChangeSpec.witness6 (enc := enc) (C := Try.checked) false ⟨#[], #[.string ByteArray.empty, .string ByteArray.empty, .slice none 0 0], []⟩ 8 (by kernel_rfl) (by kernel_rfl) (by kernel_rfl) (by kernel_rfl)) ?_
  intro W base args ds gs before hval0 hW _ hsz _
  have hval : ∀ (j : Nat) t v, Try.f12.params[j]? = some t → args[j]? = some v → Value.okWide Try.prog W .any base t v := hval0
  have hW' := hW
  obtain ⟨p, q, hA0, hV, rfl, hfz, hnd⟩ := hW
  have hA : DataW.TrodAll enc Try.prog W 0 (fun _ => true) true Try.f12.params.toList args.toList ds p := hA0
  have hsz' : (DataW.weightsEach Try.prog (Try.f12.params.toList ++ Rows.closedSpec.plain.varTypes Try.prog) (ds ++ gs)).all (· ≤ reachBytes) = true := hsz
  rw [Try.params12] at hA hval hsz'
  obtain ⟨v0, vs0, d0, ds0, p0, q0, hargs, rfl, rfl, h0, r0⟩ := trodAll_cons hA
  obtain ⟨v1, vs1, d1, ds1, p1, q1, hvs0, rfl, rfl, h1, r1⟩ := trodAll_cons r0
  obtain ⟨v2, vs2, d2, ds2, p2, q2, hvs1, rfl, rfl, h2, r2⟩ := trodAll_cons r1
  obtain ⟨rfl, rfl, rfl⟩ := trodAll_nil r2
  subst hvs1
  subst hvs0
  obtain rfl : args = #[v0, v1, v2] := by cases args; simp_all
  obtain ⟨rfl, rfl⟩ := trodVars_none hV
  obtain ⟨a0, rfl, rfl, rfl, w0⟩ := open_string Try.underlying9 (hval 0 9 v0 rfl rfl) h0
  obtain ⟨a1, rfl, rfl, rfl, w1⟩ := open_string Try.underlying9 (hval 1 9 v1 rfl rfl) h1
  obtain ⟨a, n, c, ev, rfl, hn, hll, hwf, hI⟩ : ∃ (a : Option Addr) (n c : Nat) (ev : List Int), v2 = .slice a n c ∧ n = ev.length ∧ ev.length * 8 ≤ 140737488355328 ∧ (∀ x ∈ ev, -9223372036854775808 ≤ x ∧ x ≤ 9223372036854775807) ∧ IntsAt W a ev := by
    obtain ⟨aa, len, cap, rfl⟩ := okWide_slice Try.underlying46 (hval 2 46 v2 rfl rfl)
    obtain ⟨fuel, hf⟩ := h2
    rcases open_ints Try.underlying46 Try.underlying3 cellsIn hf with ⟨hcs, hx⟩ | ⟨a, len', cap', zs, hcs, _, hle, hmax, hall, hx, hcell, hwf⟩
    · simp [Value.cells] at hcs
      obtain ⟨rfl, rfl, rfl⟩ := hcs
      exact ⟨none, 0, 0, [], rfl, rfl, by simp, by simp, IntsAt.nil _ _⟩
    · simp [Value.cells] at hcs
      obtain ⟨rfl, rfl, rfl⟩ := hcs
      simp only [if_true] at hall
      simp only [Prod.mk.injEq] at hx
      obtain ⟨rfl, _⟩ := hx
      have hw := sized_slice hsz' (j := 2) (t := 46) rfl rfl Try.underlying46
      rw [bytesIn] at hw
      have hr := reachBytes_lt
      have hlz : (zs.take len).length = len := by rw [List.length_take]; omega
      have hll : (lits (H := H) .i64 (zs.take len)).length = len := by rw [lits, List.length_map]; exact hlz
      refine ⟨some a, len, cap, zs.take len, rfl, hlz.symm, by omega, fun x hx => ?_, fun k x hx => ?_⟩
      · have := hwf x (List.mem_of_mem_take hx)
        simp [Lit.wf, IntKind.min, IntKind.max, IntKind.signed, IntKind.bits] at this
        omega
      rw [List.getElem?_take] at hx
      split at hx
      · rename_i hk
        obtain ⟨b, off, rfl, hc⟩ := ints_at hcell (by omega)
        refine ⟨b, off, rfl, ?_⟩
        rw [hc k (by omega), List.getD, hx]; rfl
      · cases hx
  subst hn
  clear hA0 hval0
  refine (Closed_walk a0 a1 a c ev hll hwf W hI).mono fun e W' ⟨he, bel⟩ => ?_
  subst he
  have hT := WideElems.Trod_stays (P := Try.prog) (W' := W') (sp' := fun b => decide (b < W.heap.size)) (by kernel_rfl) (by kernel_rfl) (of_decide_eq_true (by kernel_rfl)) h2 (fun x hx => bel.same (hW'.lt x (by simp [hx]))) (fun x hx => by simpa using hW'.lt x (by simp [hx]))
  exact ⟨_, rfl, _, _, _, [], _, [], hW', trodAll_mk1 (shut_bool Try.underlying4 _), (trodAll_cons_mk (shut_string Try.underlying9 w0) (trodAll_cons_mk (shut_string Try.underlying9 w1) (trodAll_cons_mk hT trodAll_mk0))), rfl, bel.frame _, fun h => by cases h⟩

theorem closed_holds : Rows.ClosedSaid :=
  OpenClaim.holds_of_wide 12 Try.f12 rfl rfl rfl rfl rfl rfl rfl ⟨rfl, rfl, rfl, rfl, rfl⟩ rfl rfl rfl rfl rfl (by kernel_rfl) Try.func12 (by kernel_rfl)
    (of_decide_eq_true (by kernel_rfl)) (by unfold Func.isWrapper; first | (rw [if_pos (by decide +kernel)]; kernel_rfl) | (rw [if_neg (by decide +kernel)]; exact ⟨rfl, rfl⟩))
    (fun os started H enc _ => Closed_lifted os started H enc)
#print axioms closed_holds
end Go.Proofs.Ytfdbnilopfnifaa
