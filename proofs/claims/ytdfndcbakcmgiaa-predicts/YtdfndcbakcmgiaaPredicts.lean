import Derived.Test.YtdfndcbakcmgiaaV10
import Derived.Test.YtdfndcbakcmgiaaChecks
namespace Go.Proofs.Ytdfndcbakcmgiaa
open Go.ChangeShapes Go.WideShapes Go.ChangeAt Go.RowKit
open Go.ChangeMaps (open_string shut_string)

def PrP (L : List Rp) (mo : Bool) (x : Int) (w : World) (e : Ending) (w' : World) : Prop :=
  ∃ a c us, e = .returned (.tuple #[.slice a L.length c, .bool mo, .int .i64 x]) ∧ Below w.heap.size w w' ∧ RepsIn w' w.heap.size (.slice a L.length c) L us ∧ (x ≠ 0 → a = none)
def RfP (L : List Rp) (mo : Bool) (x : Int) (w : World) (e : Ending) (w' : World) : Prop :=
  ∃ a c, e = .returned (.tuple #[.slice a L.length c, .bool mo, .int .i64 x]) ∧ Below w.heap.size w w' ∧ RpsAt w' a L w.heap.size
theorem prP_nil {x : Int} {w w' : World} {e : Ending} (he : e = .returned (.tuple #[.slice none 0 0, .bool false, .int .i64 x])) (hb : Below w.heap.size w w') : PrP [] false x w e w' :=
  ⟨none, 0, [], he, hb, ⟨rfl, (fun u hu => by cases hu), ⟨fun r hr => by
    simp only [inn, List.mem_cons, List.not_mem_nil, or_false] at hr
    subst hr
    exact World.ownsRow_nil _ _ _ _, by simp [inn]⟩⟩, fun _ => rfl⟩
theorem rfP_nil {x : Int} {w w' : World} {e : Ending} (he : e = .returned (.tuple #[.slice none 0 0, .bool false, .int .i64 x])) (hb : Below w.heap.size w w') : RfP [] false x w e w' :=
  ⟨none, 0, he, hb, fun k x h => by simp at h⟩
theorem predict_both (s sch : ByteArray) (hsch : sch.size ≤ maxLen) (k : Int) : ∃ (L : List Rp) (mo : Bool) (x : Int), L.length ≤ 100 ∧ (∀ y ∈ L, y.asks.length ≤ 5 ∧ 1 ≤ y.vd ∧ y.vd ≤ 4) ∧
    (∀ w : World, Calls Try.prog 31 #[.string s, .string sch, .int .i64 k] w fun e w' => PrP L mo x w e w') ∧
    (∀ w : World, Calls Try.prog 32 #[.string s, .string sch, .int .i64 k] w fun e w' => RfP L mo x w e w') := by
  by_cases h : (ckP s).1 ≠ 0
  · refine ⟨[], false, (ckP s).1, by simp, (fun y hy => by cases hy), fun w => ?_, fun w => ?_⟩
    · exact (predict_bad s sch k _ h w (fun w => traceOf_err s sch w h)).mono fun e w' ⟨he, hb⟩ => prP_nil he hb
    · exact (refPredict_bad s sch k _ h w (fun w => world_err s sch w h)).mono fun e w' ⟨he, hb⟩ => rfP_nil he hb
  · have h0 : (ckP s).1 = 0 := by omega
    cases hW : toLoop sch (beginW (thLoop s 0 0 [])) 0 with
    | none =>
      refine ⟨[], false, 5, by simp, (fun y hy => by cases hy), fun w => ?_, fun w => ?_⟩
      · exact (predict_bad s sch k 5 (by decide) w (fun w => traceOf_none s sch hsch w h0 hW)).mono fun e w' ⟨he, hb⟩ => prP_nil he hb
      · exact (refPredict_bad s sch k 5 (by decide) w (fun w => world_none s sch w h0 (ckP_zero s h0).1 hsch (begin_inv s h0) hW)).mono fun e w' ⟨he, hb⟩ => rfP_nil he hb
    | some W =>
      by_cases hk : k < 0 ∨ 100 < k
      · refine ⟨[], false, 6, by simp, (fun y hy => by cases hy), fun w => ?_, fun w => ?_⟩
        · exact (predict_arg s sch hsch k hk w h0 W hW).mono fun e w' ⟨he, hb⟩ => prP_nil he hb
        · exact (refPredict_arg s sch hsch k hk w h0 W hW).mono fun e w' ⟨he, hb⟩ => rfP_nil he hb
      · obtain ⟨most, rfl⟩ : ∃ most : Nat, k = most := ⟨k.toNat, by omega⟩
        have hm : most ≤ 100 := by omega
        refine ⟨(findS (aqsW W) most).1.map (rpOf W.log (aqsW W)), (findS (aqsW W) most).2, 0, ?_, fun y hy => ?_, fun w => ?_, fun w => ?_⟩
        · rw [List.length_map]; exact Nat.le_trans (findS_ok _ _) hm
        · obtain ⟨p, hp, rfl⟩ := List.mem_map.1 hy
          exact ⟨(findS_in _ _ p hp).1, judgeV_vd W.log _⟩
        · refine (predict_ok s sch hsch most hm w h0 W hW).mono ?_
          rintro e w' ⟨v, us, he, hb, hv, hR⟩
          obtain ⟨g, c, hv2⟩ := row_form (hR.fam.own (List.mem_cons_self ..)) hv
          have hv3 : v = .slice (some ⟨g, 0, none⟩) ((findS (aqsW W) most).1.map (rpOf W.log (aqsW W))).length c := hv2
          subst hv3
          exact ⟨_, c, us, he, hb, hR, fun hx => absurd rfl hx⟩
        · refine (refPredict_ok s sch hsch most hm w h0 W hW).mono ?_
          rintro e w' ⟨a, c, he, hb, hR⟩
          exact ⟨a, c, he, hb, hR⟩

set_option maxRecDepth 100000 in
set_option maxHeartbeats 2000000 in
theorem Predicts_walk (s sch : ByteArray) (k : Int) (hsch : sch.size ≤ maxLen) (w : World) :
    Calls Try.prog 9 #[.string s, .string sch, .int .i64 k] w fun e w' => e = .returned (.bool true) ∧ Below w.heap.size w w' := by
  obtain ⟨L, mo, x, hL, hLv, hP, hQ⟩ := predict_both s sch hsch k
  have hq5 : ∀ y ∈ L, y.asks.length ≤ 1000 := fun y hy => by have := (hLv y hy).1; omega
  go_enter Try.func9, Try.ntmps9
  go_upto_region 2 with (first | (go_at_call 31; refine (hP _).mono ?_; rintro e w1 ⟨al, cl, us, rfl, hb1, hR1, hx1⟩))
  go_upto_region 3 with (first | (go_at_call 32; refine (hQ _).mono ?_; rintro e w2 ⟨am, cm, rfl, hb2, hm2⟩))
  have j1 := (reps_at rfl hR1).below hb2
  obtain ⟨G, ws, haG, hMK1, hws⟩ := reps_marks' rfl hR1
  have hlt1 : ∀ gc ∈ ws, gc.1 < w1.heap.size := fun gc hgc => (hws gc hgc).2
  have hS := fun (z : Option Addr) (cz : Nat) w' (A B : Nat) (ha : RpsAt w' z L A) (hb : RpsAt w' am L B) => sameReports_true z am cz cm L (by omega) hq5 w' ha hb
  have hSL := hS al cl w2 _ _ j1 hm2
  go_upto_region 4 with (first | (go_at_call 33; refine hSL.mono ?_; rintro e w3 ⟨rfl, hb3⟩))
  have hB2 := hb1.trans (hb2.mono hb1.size)
  have hB3 := hB2.trans (hb3.mono hB2.size)
  have hb13 := hb2.trans (hb3.mono hb2.size)
  have hM3 := hMK1.below hb13 hlt1
  have hm3 := hm2.below hb3
  have key : (x != 0) = false ∨ ((x != 0) = true ∧ al = none) := by
    by_cases hx : x = 0
    · exact .inl (by simp [hx])
    · exact .inr ⟨by simpa using hx, hx1 hx⟩
  have hCl := hP w3
  clear hP hQ hR1 hm2 j1 hSL hx1
  go_cut [56] (fun v wc => v = .bool false ∧ wc = w3)
  case first =>
    rcases key with hx0 | ⟨hx1, hal⟩
    · go_wp2
      go_meet
      case rel => exact ⟨rfl, rfl⟩
    · subst hal
      go_wp2
      go_meet
      case rel => exact ⟨rfl, rfl⟩
  case rest =>
    obtain ⟨rfl, hwc⟩ := hcut
    have hwd := hwc.symm
    clear hwc
    subst hwd
    go_upto_region 7 with (first | (go_at_call 31; refine hCl.mono ?_; rintro e w4 ⟨aa, cc, us4, rfl, hb4, hR4, hx4⟩))
    have hM4 := hM3.below hb4 (fun gc hgc => Nat.lt_of_lt_of_le (hlt1 gc hgc) hb13.size)
    have hm4 := hm3.below hb4
    have ha4 := reps_at rfl hR4
    have hB4 := hB3.trans (hb4.mono hB3.size)
    have hMa := marked_any al G cl L haG ws (by omega) w4 hM4
    have hs13 := hb13.size
    have hs1 := hb1.size
    clear hCl hR4 hM3 hm3 hMK1 key
    go_upto_region 8 with (first | (go_at_call 34; refine hMa.mono ?_; rintro e w5 ⟨rfl, hb5, hsame⟩))
    have hS5 : ∀ b, w1.heap.size ≤ b → w5.heap[b]? = w4.heap[b]? := fun b hb => hsame b (fun gc hgc e => by have := hlt1 gc hgc; omega)
    have hm5 := hm4.same hS5
    have ha5 := (ha4.mono hs13).same hS5
    have hB5 : Below w.heap.size w w5 := ⟨hb5.os.trans hB4.os, hb5.tape.trans hB4.tape, hb5.output.trans hB4.output, Nat.le_trans hB4.size hb5.size, fun b hb => by rw [hsame b (fun gc hgc e => by have := (hws gc hgc).1; omega)]; exact hB4.block b hb⟩
    have HV : Hid (∀ (i : Nat) (y : Rp), L[i]? = some y → al = some ⟨G, 0, none⟩ ∧ w5.cell? ⟨G, i * 3 + 1, none⟩ = some (.int .i64 y.vd)) := fun i y hy => by
      have hi := (List.getElem?_eq_some_iff.1 hy).1
      obtain ⟨gc, hg⟩ := get_some ws i (by rw [hM4.len]; exact hi)
      refine ⟨haG (by intro e; rw [e] at hi; simp at hi), ?_⟩
      have hGn : ∀ gc ∈ ws, gc.1 ≠ G := fun gc hgc => by
        obtain ⟨j, hj⟩ := List.mem_iff_getElem?.1 hgc
        have hjl := (List.getElem?_eq_some_iff.1 hj).1
        obtain ⟨z, hz⟩ := get_some L j (by rw [← hM4.len]; exact hjl)
        obtain ⟨_, _, _, _, _, h⟩ := hM4.inn j z gc hz hj
        exact h
      rw [World.cell?_of_block (w := w4) (a := ⟨G, i * 3 + 1, none⟩) (hsame G hGn)]
      exact (hM4.out i y gc hy hg).2
    clear hMa hm4 ha4 hsame hS5 hM4 haG
    go_wp2
    go_loopw [17] (fun y wr => ∃ i : Nat, i ≤ L.length ∧ y = .int .i64 (i : Int) ∧ wr = w5) (fun y _ => L.length - (intOf y).toNat)
    case atStart => exact ⟨0, Nat.zero_le _, rfl, rfl⟩
    case round =>
      obtain ⟨i, hi, rfl, hwr⟩ := hrel
      subst hwr
      by_cases hil : i < L.length
      · obtain ⟨y, hy⟩ := get_some L i hil
        obtain ⟨hal, cv⟩ := HV.out i y hy
        subst hal
        obtain ⟨_, hv1, hv2⟩ := hLv y (List.mem_of_getElem? hy)
        have hne : (y.vd == -77) = false := beq_false_of_ne (by omega)
        have i0 : (0 : Int) ≤ (i : Int) := by omega
        have il : (i : Int) < (L.length : Int) := by omega
        clear hy
        go_wp2
        go_roundw
        case rel => exact ⟨i + 1, by omega, by go_num, by first | rfl | trivial⟩
        case measure => (simp [intOf] <;> omega)
      · have il : ¬ (i : Int) < (L.length : Int) := by omega
        have hSf := hS aa cc wr _ _ ha5 hm5
        go_wp2_with (first | (go_at_call 33; refine hSf.mono ?_; rintro e w9 ⟨rfl, hb9⟩))
        go_ret
        exact ⟨rfl, hB5.trans (hb9.mono hB5.size)⟩

set_option maxRecDepth 100000 in
theorem Predicts_lifted (os : Os) (started : os.Started) (H : Type) (enc : TypeId × Value → H) :
    ReturnsInHanded {} Try.checked os 9 .any (Rows.predictsSpec.pre6 enc Try.prog Try.f9 Rows.predictsRow.domain false) (Rows.predictsSpec.post enc Try.prog Try.f9 false true false false) := by
  refine returnsInHanded_of_change (C := Try.checked) Try.own started (by kernel_rfl) Try.func9
    (ChangeSpec.witness6 (enc := enc) (C := Try.checked) false ⟨#[], #[.string ByteArray.empty, .string ByteArray.empty, .int .i64 0], []⟩ 8 (by kernel_rfl) (by kernel_rfl) (by kernel_rfl) (by kernel_rfl)) ?_
  intro W base args ds gs before hval0 hW _ _
  have hval : ∀ (j : Nat) t v, Try.f9.params[j]? = some t → args[j]? = some v → Value.okWide Try.prog W .any base t v := hval0
  have hW' := hW
  obtain ⟨p, q, hA0, hV, rfl, hfz, hnd⟩ := hW
  have hA : DataW.TrodAll enc Try.prog W 0 (fun _ => true) true Try.f9.params.toList args.toList ds p := hA0
  rw [Try.params9] at hA hval
  obtain ⟨v0, vs0, d0, ds0, p0, q0, hargs, rfl, rfl, h0, r0⟩ := trodAll_cons hA
  obtain ⟨v1, vs1, d1, ds1, p1, q1, hvs0, rfl, rfl, h1, r1⟩ := trodAll_cons r0
  obtain ⟨v2, vs2, d2, ds2, p2, q2, hvs1, rfl, rfl, h2, r2⟩ := trodAll_cons r1
  obtain ⟨rfl, rfl, rfl⟩ := trodAll_nil r2
  subst hvs1
  subst hvs0
  obtain rfl : args = #[v0, v1, v2] := by cases args; simp_all
  obtain ⟨rfl, rfl⟩ := trodVars_none hV
  obtain ⟨a0, rfl, rfl, rfl, w0⟩ := open_string Try.underlying9 (hval 0 9 v0 rfl rfl) h0
  obtain ⟨a1, rfl, rfl, rfl, w1⟩ := open_string Try.underlying9 (hval 1 9 v1 rfl rfl) h1
  obtain ⟨n2, rfl, rfl, rfl, w2⟩ := open_int Try.underlying3 (hval 2 3 v2 rfl rfl) h2
  clear hA0 hval0
  refine (Predicts_walk a0 a1 n2 w1 W).mono fun e W' ⟨he, bel⟩ => ?_
  subst he
  exact ⟨_, rfl, _, _, _, [], _, [], hW', trodAll_mk1 (shut_bool Try.underlying4 _), (trodAll_cons_mk (shut_string Try.underlying9 w0) (trodAll_cons_mk (shut_string Try.underlying9 w1) (trodAll_cons_mk (shut_int Try.underlying3 w2) trodAll_mk0))), rfl, bel.frame _, fun h => by cases h⟩

theorem predicts_holds : Rows.PredictsSaid :=
  OpenClaim.holds_of_wide 9 Try.f9 rfl rfl rfl rfl rfl rfl rfl ⟨rfl, rfl, rfl, rfl, rfl⟩ rfl rfl rfl rfl rfl (by kernel_rfl) Try.func9 (by kernel_rfl)
    (of_decide_eq_true (by kernel_rfl)) (by unfold Func.isWrapper; first | (rw [if_pos (by decide +kernel)]; kernel_rfl) | (rw [if_neg (by decide +kernel)]; exact ⟨rfl, rfl⟩))
    (fun os started H enc _ => Predicts_lifted os started H enc)
#print axioms predicts_holds
end Go.Proofs.Ytdfndcbakcmgiaa
