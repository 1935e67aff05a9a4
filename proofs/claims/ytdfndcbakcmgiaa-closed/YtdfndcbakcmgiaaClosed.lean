import Derived.Test.YtdfndcbakcmgiaaT30
import Derived.Test.YtdfndcbakcmgiaaChecks
namespace Go.Proofs.Ytdfndcbakcmgiaa
open Go.ChangeShapes Go.WideShapes Go.ChangeAt Go.RowKit
open Go.ChangeMaps (open_string shut_string)

theorem cellsIn : Try.prog.cellsOf 3 = 1 := by
  obtain ⟨i, h1, _, h2, _⟩ := info_split infoInt
  rw [Program.cellsOf, h1]; simp [h2]
theorem bytesIn : Try.prog.bytesOf 3 = 8 := by
  obtain ⟨i, h1, _, _, h3⟩ := info_split infoInt
  rw [Program.bytesOf, h1]; simp [h3]
theorem Closed_walk (s picks : ByteArray) (a : Option Addr) (ca : Nat) (raw : List Int) (hraw : raw.length * 8 ≤ 140737488355328) (hwf : ∀ x ∈ raw, -9223372036854775808 ≤ x ∧ x ≤ 9223372036854775807) (w : World) (hA : IntsAt w a raw) :
    Calls Try.prog 12 #[.string s, .string picks, .slice a raw.length ca] w fun e w' => e = .returned (.bool true) ∧ Below w.heap.size w w' := by
  by_cases h : (ckP s).1 ≠ 0
  · exact Closed_out s picks a _ ca w h
  · exact Closed_in s picks a ca raw hraw hwf w hA (by omega)

set_option maxRecDepth 100000 in
theorem Closed_lifted (os : Os) (started : os.Started) (H : Type) (enc : TypeId × Value → H) :
    ReturnsInHanded {} Try.checked os 12 .any (Rows.closedSpec.pre6 enc Try.prog Try.f12 Rows.closedRow.domain false) (Rows.closedSpec.post enc Try.prog Try.f12 false true false false) := by
  refine returnsInHanded_of_change_sized (C := Try.checked) Try.own started (by kernel_rfl) Try.func12
    (ChangeSpec.witness6 (enc := enc) (C := Try.checked) false ⟨#[], #[.string ByteArray.empty, .string ByteArray.empty, .slice none 0 0], []⟩ 8 (by kernel_rfl) (by kernel_rfl) (by kernel_rfl) (by kernel_rfl)) ?_
  intro W base args ds gs before hval0 hW _ hsz _
  have hval : ∀ (j : Nat) t v, Try.f12.params[j]? = some t → args[j]? = some v → Value.okWide Try.prog W .any base t v := hval0
  have hW' := hW
  obtain ⟨p, q, hA0, hV, rfl, hfz, hnd⟩ := hW
  have hA : DataW.TrodAll enc Try.prog W 0 (fun _ => true) true Try.f12.params.toList args.toList ds p := hA0
  have hsz' : (DataW.weightsEach Try.prog (Try.f12.params.toList ++ Rows.closedSpec.plain.varTypes Try.prog) (ds ++ gs)).all (· ≤ reachBytes) = true := hsz
  rw [Try.params12] at hA hval hsz'
  obtain ⟨v0, vs0, d0, ds0, p0, q0, hargs, rfl, rfl, h0, r0⟩ := trodAll_cons hA
  obtain ⟨v1, vs1, d1, ds1, p1, q1, hvs0, rfl, rfl, h1, r1⟩ := trodAll_cons r0
  obtain ⟨v2, vs2, d2, ds2, p2, q2, hvs1, rfl, rfl, h2, r2⟩ := trodAll_cons r1
  obtain ⟨rfl, rfl, rfl⟩ := trodAll_nil r2
  subst hvs1
  subst hvs0
  obtain rfl : args = #[v0, v1, v2] := by cases args; simp_all
  obtain ⟨rfl, rfl⟩ := trodVars_none hV
  obtain ⟨a0, rfl, rfl, rfl, w0⟩ := open_string Try.underlying9 (hval 0 9 v0 rfl rfl) h0
  obtain ⟨a1, rfl, rfl, rfl, w1⟩ := open_string Try.underlying9 (hval 1 9 v1 rfl rfl) h1
  obtain ⟨a, n, c, ev, rfl, hn, hll, hwf, hI⟩ : ∃ (a : Option Addr) (n c : Nat) (ev : List Int), v2 = .slice a n c ∧ n = ev.length ∧ ev.length * 8 ≤ 140737488355328 ∧ (∀ x ∈ ev, -9223372036854775808 ≤ x ∧ x ≤ 9223372036854775807) ∧ IntsAt W a ev := by
    obtain ⟨aa, len, cap, rfl⟩ := okWide_slice Try.underlying46 (hval 2 46 v2 rfl rfl)
    obtain ⟨fuel, hf⟩ := h2
    rcases open_ints Try.underlying46 Try.underlying3 cellsIn hf with ⟨hcs, hx⟩ | ⟨a, len', cap', zs, hcs, _, hle, hmax, hall, hx, hcell, hwf⟩
    · simp [Value.cells] at hcs
      obtain ⟨rfl, rfl, rfl⟩ := hcs
      exact ⟨none, 0, 0, [], rfl, rfl, by simp, by simp, IntsAt.nil _ _⟩
    · simp [Value.cells] at hcs
      obtain ⟨rfl, rfl, rfl⟩ := hcs
      simp only [if_true] at hall
      simp only [Prod.mk.injEq] at hx
      obtain ⟨rfl, _⟩ := hx
      have hw := sized_slice hsz' (j := 2) (t := 46) rfl rfl Try.underlying46
      rw [bytesIn] at hw
      have hr := reachBytes_lt
      have hlz : (zs.take len).length = len := by rw [List.length_take]; omega
      have hll : (lits (H := H) .i64 (zs.take len)).length = len := by rw [lits, List.length_map]; exact hlz
      refine ⟨some a, len, cap, zs.take len, rfl, hlz.symm, by omega, fun x hx => ?_, fun k x hx => ?_⟩
      · have := hwf x (List.mem_of_mem_take hx)
        simp [Lit.wf, IntKind.min, IntKind.max, IntKind.signed, IntKind.bits] at this
        omega
      rw [List.getElem?_take] at hx
      split at hx
      · rename_i hk
        obtain ⟨b, off, rfl, hc⟩ := ints_at hcell (by omega)
        refine ⟨b, off, rfl, ?_⟩
        rw [hc k (by omega), List.getD, hx]; rfl
      · cases hx
  subst hn
  clear hA0 hval0
  refine (Closed_walk a0 a1 a c ev hll hwf W hI).mono fun e W' ⟨he, bel⟩ => ?_
  subst he
  have hT := WideElems.Trod_stays (P := Try.prog) (W' := W') (sp' := fun b => decide (b < W.heap.size)) (by kernel_rfl) (by kernel_rfl) (of_decide_eq_true (by kernel_rfl)) h2 (fun x hx => bel.same (hW'.lt x (by simp [hx]))) (fun x hx => by simpa using hW'.lt x (by simp [hx]))
  exact ⟨_, rfl, _, _, _, [], _, [], hW', trodAll_mk1 (shut_bool Try.underlying4 _), (trodAll_cons_mk (shut_string Try.underlying9 w0) (trodAll_cons_mk (shut_string Try.underlying9 w1) (trodAll_cons_mk hT trodAll_mk0))), rfl, bel.frame _, fun h => by cases h⟩

theorem closed_holds : Rows.ClosedSaid :=
  OpenClaim.holds_of_wide 12 Try.f12 rfl rfl rfl rfl rfl rfl rfl ⟨rfl, rfl, rfl, rfl, rfl⟩ rfl rfl rfl rfl rfl (by kernel_rfl) Try.func12 (by kernel_rfl)
    (of_decide_eq_true (by kernel_rfl)) (by unfold Func.isWrapper; first | (rw [if_pos (by decide +kernel)]; kernel_rfl) | (rw [if_neg (by decide +kernel)]; exact ⟨rfl, rfl⟩))
    (fun os started H enc _ => Closed_lifted os started H enc)
#print axioms closed_holds
end Go.Proofs.Ytdfndcbakcmgiaa
