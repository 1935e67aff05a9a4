import Derived.Test.YtdfndcbakcmgiaaT27
namespace Go.Proofs.Ytdfndcbakcmgiaa
open Go.ChangeShapes Go.WideShapes Go.ChangeAt Go.RowKit
open Go.ChangeMaps (open_string shut_string)

theorem Fenced_out (s picks : ByteArray) (w : World) (h : (ckP s).1 ≠ 0) :
    Calls Try.prog 11 #[.string s, .string picks] w fun e w' => e = .returned (.bool true) ∧ Below w.heap.size w w' := by
  have hIs := fun w => isProgram_no s picks w h
  go_enter Try.func11, Try.ntmps11
  go_wp2_with (first
    | (go_at_call 35; refine (hIs _).mono ?_; rintro e w1 ⟨rfl, hb1⟩))
  go_ret
  exact ⟨rfl, hb1⟩
set_option maxRecDepth 100000 in
set_option maxHeartbeats 4000000 in
theorem Fenced_in (s picks : ByteArray) (w : World) (h0 : (ckP s).1 = 0) :
    Calls Try.prog 11 #[.string s, .string picks] w fun e w' => e = .returned (.bool true) ∧ Below w.heap.size w w' := by
  have I0 := begin_inv s h0
  obtain ⟨ms, how, WE, hr⟩ := runs_ex picks _ (beginW (thLoop s 0 0 [])) 0 I0 rfl
  have hlen := hr.len I0
  have hsm := hr.small I0.good.n5
  have hsm' : ∀ t ∈ ms, t ≤ 100 := fun t ht => by have := hsm t ht; omega
  have hE := hr.ends I0
  have hto0 : toLoop ⟨#[]⟩ (beginW (thLoop s 0 0 [])) 0 = some (beginW (thLoop s 0 0 [])) := by rw [toLoop, if_neg (by simp [ByteArray.size])]
  have hV : resumeV s ⟨#[]⟩ picks = .tuple #[.string (digS ms), .int .i64 how, .int .i64 0] := by
    rw [resumeV, if_neg (by rw [h0]; decide), hto0]
    simp only [hr.resumeL 61 [] rfl (by omega), List.nil_append]
  have hRun := fun w => run_any s picks w
  rw [hV] at hRun
  have hIs := fun w => isProgram_yes s picks (digS ms) how w h0 hV hE.range.1 hE.range.2
  have hFe : ∀ k, k ≤ ms.length → ∀ w, Calls Try.prog 39 #[.string s, .string (digS (ms.take k))] w fun e w' => e = .returned (.bool true) ∧ Below w.heap.size w w' := by
    intro k hk w
    obtain ⟨V, hV1, _⟩ := hr.rest k hk
    have hst : ∀ t ∈ ms.take k, t ≤ 100 := fun t ht => hsm' t (List.mem_of_mem_take ht)
    have hto : toLoop (digS (ms.take k)) (beginW (thLoop s 0 0 [])) 0 = some V := by rw [toLoop_dig _ I0 _ hst]; exact hV1
    exact fenced_any s _ (by rw [digS_size]; unfold maxLen; simp; omega) w h0 V hto
  have hods := digS_size ms
  clear hV hr hsm hsm' hE hto0 I0
  go_enter Try.func11, Try.ntmps11
  go_wp2_with (first
    | (go_at_call 35; refine (hIs _).mono ?_; rintro e w1 ⟨rfl, hb1⟩)
    | (go_at_call 16; refine (hRun _).mono ?_; rintro e w2 ⟨rfl, hb2⟩))
  have hB2 := hb1.trans (hb2.mono hb1.size)
  clear hIs hRun
  go_loopw [10] (fun i wr => ∃ k : Nat, k ≤ ms.length + 1 ∧ i = .int .i64 (k : Int) ∧ Below w.heap.size w wr) (fun i _ => ms.length + 1 - (intOf i).toNat)
  case atStart => exact ⟨0, Nat.zero_le _, rfl, hB2⟩
  case round =>
    obtain ⟨k, hk, rfl, hBr⟩ := hrel
    by_cases hkl : k ≤ ms.length
    · have k0 : (0 : Int) ≤ (k : Int) := by omega
      have kl : (k : Int) ≤ (ms.length : Int) := by omega
      have hex := digS_take ms k
      have hF := hFe k hkl
      generalize digS (ms.take k) = pre at *
      go_wp2_with (first
        | (go_at_call 39; refine (hF _).mono ?_; rintro e w3 ⟨rfl, hb3⟩))
      go_roundw
      case rel => exact ⟨k + 1, by omega, rfl, hBr.trans (hb3.mono hBr.size)⟩
      case measure => (simp [intOf] <;> omega)
    · have kl : ¬ (k : Int) ≤ (ms.length : Int) := by omega
      go_wp2
      go_ret
      exact ⟨rfl, hBr⟩
theorem Fenced_walk (s picks : ByteArray) (w : World) :
    Calls Try.prog 11 #[.string s, .string picks] w fun e w' => e = .returned (.bool true) ∧ Below w.heap.size w w' := by
  by_cases h : (ckP s).1 ≠ 0
  · exact Fenced_out s picks w h
  · exact Fenced_in s picks w (by omega)

set_option maxRecDepth 100000 in
theorem Fenced_lifted (os : Os) (started : os.Started) (H : Type) (enc : TypeId × Value → H) :
    ReturnsInHanded {} Try.checked os 11 .any (Rows.fencedSpec.pre6 enc Try.prog Try.f11 Rows.fencedRow.domain false) (Rows.fencedSpec.post enc Try.prog Try.f11 false true false false) := by
  refine returnsInHanded_of_change (C := Try.checked) Try.own started (by kernel_rfl) Try.func11
    (ChangeSpec.witness6 (enc := enc) (C := Try.checked) false ⟨#[], #[.string ByteArray.empty, .string ByteArray.empty], []⟩ 8 (by kernel_rfl) (by kernel_rfl) (by kernel_rfl) (by kernel_rfl)) ?_
  intro W base args ds gs before hval0 hW _ _
  have hval : ∀ (j : Nat) t v, Try.f11.params[j]? = some t → args[j]? = some v → Value.okWide Try.prog W .any base t v := hval0
  have hW' := hW
  obtain ⟨p, q, hA0, hV, rfl, hfz, hnd⟩ := hW
  have hA : DataW.TrodAll enc Try.prog W 0 (fun _ => true) true Try.f11.params.toList args.toList ds p := hA0
  rw [Try.params11] at hA hval
  obtain ⟨v0, vs0, d0, ds0, p0, q0, hargs, rfl, rfl, h0, r0⟩ := trodAll_cons hA
  obtain ⟨v1, vs1, d1, ds1, p1, q1, hvs0, rfl, rfl, h1, r1⟩ := trodAll_cons r0
  obtain ⟨rfl, rfl, rfl⟩ := trodAll_nil r1
  subst hvs0
  obtain rfl : args = #[v0, v1] := by cases args; simp_all
  obtain ⟨rfl, rfl⟩ := trodVars_none hV
  obtain ⟨a0, rfl, rfl, rfl, w0⟩ := open_string Try.underlying9 (hval 0 9 v0 rfl rfl) h0
  obtain ⟨a1, rfl, rfl, rfl, w1⟩ := open_string Try.underlying9 (hval 1 9 v1 rfl rfl) h1
  clear hA0 hval0
  refine (Fenced_walk a0 a1 W).mono fun e W' ⟨he, bel⟩ => ?_
  subst he
  exact ⟨_, rfl, _, _, _, [], _, [], hW', trodAll_mk1 (shut_bool Try.underlying4 _), (trodAll_cons_mk (shut_string Try.underlying9 w0) (trodAll_cons_mk (shut_string Try.underlying9 w1) trodAll_mk0)), rfl, bel.frame _, fun h => by cases h⟩

theorem fenced_holds : Rows.FencedSaid :=
  OpenClaim.holds_of_wide 11 Try.f11 rfl rfl rfl rfl rfl rfl rfl ⟨rfl, rfl, rfl, rfl, rfl⟩ rfl rfl rfl rfl rfl (by kernel_rfl) Try.func11 (by kernel_rfl)
    (of_decide_eq_true (by kernel_rfl)) (by unfold Func.isWrapper; first | (rw [if_pos (by decide +kernel)]; kernel_rfl) | (rw [if_neg (by decide +kernel)]; exact ⟨rfl, rfl⟩))
    (fun os started H enc _ => Fenced_lifted os started H enc)
#print axioms fenced_holds
end Go.Proofs.Ytdfndcbakcmgiaa
