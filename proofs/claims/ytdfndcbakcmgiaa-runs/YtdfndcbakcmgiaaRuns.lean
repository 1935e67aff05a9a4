import Derived.Test.YtdfndcbakcmgiaaE16
import Derived.Test.YtdfndcbakcmgiaaChecks
namespace Go.Proofs.Ytdfndcbakcmgiaa
open Go.ChangeShapes Go.WideShapes Go.ChangeAt Go.RowKit
open Go.ChangeMaps (open_string shut_string)

set_option maxRecDepth 100000 in
set_option maxHeartbeats 2000000 in
theorem Runs_walk (s sch picks : ByteArray) (hsch : sch.size ≤ maxLen) (hpk : picks.size ≤ maxLen) (w : World) :
    Calls Try.prog 4 #[.string s, .string sch, .string picks] w fun e w' => e = .returned (.bool true) ∧ Below w.heap.size w w' := by
  have h1 := fun w => run_any s picks w
  have h0 : (⟨#[]⟩ : ByteArray).size ≤ maxLen := by simp [ByteArray.size]
  have h3 := fun w => resume_any s sch picks hsch w
  have h4 := fun (x : ByteArray) (hx : x.size ≤ maxLen) w => refResume_any s x picks hx hpk w
  obtain ⟨a, b, c, hV⟩ := resumeV_form s ⟨#[]⟩ picks
  obtain ⟨a', b', c', hV'⟩ := resumeV_form s sch picks
  have HV : Hid (resumeV s ⟨#[]⟩ picks = .tuple #[.string a, .int .i64 b, .int .i64 c]) := hV
  have HV' : Hid (resumeV s sch picks = .tuple #[.string a', .int .i64 b', .int .i64 c']) := hV'
  have H0 : Hid ((⟨#[]⟩ : ByteArray).size ≤ maxLen) := h0
  have HS : Hid (sch.size ≤ maxLen) := hsch
  clear hV hV' h0 hsch hpk
  go_enter Try.func4, Try.ntmps4
  go_wp2_with (first
    | (go_at_call 16; refine (h1 _).mono ?_; rintro e w1 ⟨he, hb1⟩; rw [HV.out] at he; subst he)
    | (go_at_call 18; refine (h3 _).mono ?_; rintro e w3 ⟨he, hb3⟩; rw [HV'.out] at he; subst he)
    | (go_at_call 17; refine (h4 _ (by first | exact HS.out | exact H0.out) _).mono ?_; first | (rintro e w2 ⟨he, hb2⟩; rw [HV.out] at he; subst he) | (rintro e w4 ⟨he, hb4⟩; rw [HV'.out] at he; subst he)))
  go_ret
  exact ⟨rfl, ((hb1.trans (hb2.mono hb1.size)).trans (hb3.mono (Nat.le_trans hb1.size hb2.size))).trans (hb4.mono (Nat.le_trans (Nat.le_trans hb1.size hb2.size) hb3.size))⟩

set_option maxRecDepth 100000 in
theorem Runs_lifted (os : Os) (started : os.Started) (H : Type) (enc : TypeId × Value → H) :
    ReturnsInHanded {} Try.checked os 4 .any (Rows.runsSpec.pre6 enc Try.prog Try.f4 Rows.runsRow.domain false) (Rows.runsSpec.post enc Try.prog Try.f4 false true false false) := by
  refine returnsInHanded_of_change (C := Try.checked) Try.own started (by kernel_rfl) Try.func4
    (ChangeSpec.witness6 (enc := enc) (C := Try.checked) false ⟨#[], #[.string ByteArray.empty, .string ByteArray.empty, .string ByteArray.empty], []⟩ 8 (by kernel_rfl) (by kernel_rfl) (by kernel_rfl) (by kernel_rfl)) ?_
  intro W base args ds gs before hval0 hW _ _
  have hval : ∀ (j : Nat) t v, Try.f4.params[j]? = some t → args[j]? = some v → Value.okWide Try.prog W .any base t v := hval0
  have hW' := hW
  obtain ⟨p, q, hA0, hV, rfl, hfz, hnd⟩ := hW
  have hA : DataW.TrodAll enc Try.prog W 0 (fun _ => true) true Try.f4.params.toList args.toList ds p := hA0
  rw [Try.params4] at hA hval
  obtain ⟨v0, vs0, d0, ds0, p0, q0, hargs, rfl, rfl, h0, r0⟩ := trodAll_cons hA
  obtain ⟨v1, vs1, d1, ds1, p1, q1, hvs0, rfl, rfl, h1, r1⟩ := trodAll_cons r0
  obtain ⟨v2, vs2, d2, ds2, p2, q2, hvs1, rfl, rfl, h2, r2⟩ := trodAll_cons r1
  obtain ⟨rfl, rfl, rfl⟩ := trodAll_nil r2
  subst hvs1
  subst hvs0
  obtain rfl : args = #[v0, v1, v2] := by cases args; simp_all
  obtain ⟨rfl, rfl⟩ := trodVars_none hV
  obtain ⟨a0, rfl, rfl, rfl, w0⟩ := open_string Try.underlying9 (hval 0 9 v0 rfl rfl) h0
  obtain ⟨a1, rfl, rfl, rfl, w1⟩ := open_string Try.underlying9 (hval 1 9 v1 rfl rfl) h1
  obtain ⟨a2, rfl, rfl, rfl, w2⟩ := open_string Try.underlying9 (hval 2 9 v2 rfl rfl) h2
  clear hA0 hval0
  refine (Runs_walk a0 a1 a2 w1 w2 W).mono fun e W' ⟨he, bel⟩ => ?_
  subst he
  exact ⟨_, rfl, _, _, _, [], _, [], hW', trodAll_mk1 (shut_bool Try.underlying4 _), (trodAll_cons_mk (shut_string Try.underlying9 w0) (trodAll_cons_mk (shut_string Try.underlying9 w1) (trodAll_cons_mk (shut_string Try.underlying9 w2) trodAll_mk0))), rfl, bel.frame _, fun h => by cases h⟩

theorem runs_holds : Rows.RunsSaid :=
  OpenClaim.holds_of_wide 4 Try.f4 rfl rfl rfl rfl rfl rfl rfl ⟨rfl, rfl, rfl, rfl, rfl⟩ rfl rfl rfl rfl rfl (by kernel_rfl) Try.func4 (by kernel_rfl)
    (of_decide_eq_true (by kernel_rfl)) (by unfold Func.isWrapper; first | (rw [if_pos (by decide +kernel)]; kernel_rfl) | (rw [if_neg (by decide +kernel)]; exact ⟨rfl, rfl⟩))
    (fun os started H enc _ => Runs_lifted os started H enc)
#print axioms runs_holds
end Go.Proofs.Ytdfndcbakcmgiaa
