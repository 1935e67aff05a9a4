import Derived.Test.YtdfndcbakcmgiaaE19
import Derived.Test.YtdfndcbakcmgiaaChecks
import Derived.WalkSpells
namespace Go.Proofs.Ytdfndcbakcmgiaa
open Go.ChangeShapes Go.WideShapes Go.ChangeAt Go.RowKit
open Go.ChangeMaps (open_string shut_string)

/-- What both Replays answer: a list of threads, the flags, the error; an error comes with nil. -/
def ReplayOut (w w' : World) (e : Ending) (l : List Th) (fl : ByteArray) (err : Int) : Prop :=
  ∃ a c, e = .returned (.tuple #[.agg #[.slice a l.length c, .string fl], .int .i64 err]) ∧ Below w.heap.size w w' ∧ ThsIn w' a l ∧ (err ≠ 0 → a = none ∧ c = 0 ∧ l = [])
theorem replay_any (s sch : ByteArray) (hsch : sch.size ≤ maxLen) : ∃ (l : List Th) (fl : ByteArray) (err : Int), l.length ≤ 5 ∧
    (∀ w, Calls Try.prog 19 #[.string s, .string sch] w fun e w' => ReplayOut w w' e l fl err) ∧
    (∀ w, Calls Try.prog 20 #[.string s, .string sch] w fun e w' => ReplayOut w w' e l fl err) := by
  by_cases h : (ckP s).1 ≠ 0
  · refine ⟨[], ⟨#[]⟩, (ckP s).1, by simp, fun w => (replay_bad s sch w _ h (fun w => follow_err s sch w h)).mono ?_, fun w => (refReplay_err s sch w h).mono ?_⟩
    · rintro e w1 ⟨rfl, hb⟩; exact ⟨none, 0, rfl, hb, ThsIn.nil _ _, fun _ => ⟨rfl, rfl, rfl⟩⟩
    · rintro e w1 ⟨rfl, hb⟩; exact ⟨none, 0, rfl, hb, ThsIn.nil _ _, fun _ => ⟨rfl, rfl, rfl⟩⟩
  · have h0 : (ckP s).1 = 0 := by omega
    have hs := (ckP_zero s h0).1
    have I0 := begin_inv s h0
    cases hW : toLoop sch (beginW (thLoop s 0 0 [])) 0 with
    | none =>
      refine ⟨[], ⟨#[]⟩, 5, by simp, fun w => (replay_bad s sch w 5 (by decide) (fun w => follow_none s sch hsch w h0 hW)).mono ?_, fun w => (refReplay_none s sch w h0 hs hsch I0 hW).mono ?_⟩
      · rintro e w1 ⟨rfl, hb⟩; exact ⟨none, 0, rfl, hb, ThsIn.nil _ _, fun _ => ⟨rfl, rfl, rfl⟩⟩
      · rintro e w1 ⟨rfl, hb⟩; exact ⟨none, 0, rfl, hb, ThsIn.nil _ _, fun _ => ⟨rfl, rfl, rfl⟩⟩
    | some W =>
      have hl : (thsOf W W.prog.length).length = W.prog.length := thsOf_len W _
      have IW := (toLoop_inv sch _ 0 _ W rfl I0 hW).1
      refine ⟨thsOf W W.prog.length, flagsLoop W.set 0 ⟨#[]⟩, 0, by rw [hl]; exact IW.good.n5, fun w => (replay_ok s sch hsch w h0 W hW).mono ?_, fun w => (refReplay_ok s sch w h0 hs hsch I0 W hW).mono ?_⟩
      · rintro e w1 ⟨g, cap, rfl, hb, ho⟩
        rw [← hl] at ho
        refine ⟨some ⟨g, 0, none⟩, cap, by rw [hl], hb, ?_, fun h => absurd rfl h⟩
        have ho2 := ho
        rw [hl] at ho2
        refine thsIn_of (B := w.heap.size + 1) (cap := cap) ?_
        rw [hl]
        exact ho2
      · rintro e w1 ⟨g, cap, rfl, hb, ho⟩
        refine ⟨some ⟨g, 0, none⟩, cap, by rw [hl], hb, ?_, fun h => absurd rfl h⟩
        refine thsIn_of (B := w.heap.size + 1) (cap := cap) ?_
        rw [hl]
        exact ho

set_option maxRecDepth 100000 in
set_option maxHeartbeats 4000000 in
theorem Replays_walk (s sch : ByteArray) (hsch : sch.size ≤ maxLen) (w : World) :
    Calls Try.prog 5 #[.string s, .string sch] w fun e w' => e = .returned (.bool true) ∧ Below w.heap.size w w' := by
  obtain ⟨l, fl, err, hl5, h1, h2⟩ := replay_any s sch hsch
  by_cases he : err = 0
  · subst he
    go_enter Try.func5, Try.ntmps5
    go_wp2_with (first
      | (go_at_call 19; refine (h1 _).mono ?_; rintro e w1 ⟨a, c, rfl, hb1, hA, _⟩; have hA1 := hA.below ((Below.refl _ _).alloc (Nat.le_refl _) (.cells #[.slice a l.length c, .string fl] 32)))
      | (go_at_call 20; refine (h2 _).mono ?_; rintro e w2 ⟨a', c', rfl, hb2, hA', _⟩; have hA1' := hA'.below ((Below.refl _ _).alloc (Nat.le_refl _) (.cells #[.slice a' l.length c', .string fl] 32)); have hA2 := hA1.below (hb2.alloc hb2.size (.cells #[.slice a' l.length c', .string fl] 32)); obtain ⟨hc, hz, hlt, _⟩ := below_new hb2; have q0 : w2.cell? ⟨w1.heap.size, 0, none⟩ = some (.slice a l.length c) := hc 0 _ rfl; have q1 : w2.cell? ⟨w1.heap.size, 1, none⟩ = some (.string fl) := hc 1 _ rfl; clear hc)
      | (go_at_call 21; refine (sameViews_any l hl5 fl a a' c c' _ hA2 hA1').mono ?_; rintro e w3 ⟨rfl, hb3⟩))
    go_ret
    have hX := ((Below.refl w1.heap.size w1).alloc (Nat.le_refl _) (.cells #[.slice a l.length c, .string fl] 32)).trans ((hb2.alloc hb2.size (.cells #[.slice a' l.length c', .string fl] 32)).mono (by simp))
    have hY := hX.trans (hb3.mono hX.size)
    exact ⟨rfl, hb1.trans (hY.mono hb1.size)⟩
  · have e1 : (err == 0) = false := beq_false_of_ne he
    have h1' : ∀ w, Calls Try.prog 19 #[.string s, .string sch] w fun e w' => e = .returned (.tuple #[.agg #[.slice none 0 0, .string fl], .int .i64 err]) ∧ Below w.heap.size w w' := fun w => (h1 w).mono (by
      rintro e w1 ⟨a, c, rfl, hb1, _, h0⟩
      obtain ⟨rfl, rfl, rfl⟩ := h0 he
      exact ⟨rfl, hb1⟩)
    have h2' : ∀ w, Calls Try.prog 20 #[.string s, .string sch] w fun e w' => e = .returned (.tuple #[.agg #[.slice none 0 0, .string fl], .int .i64 err]) ∧ Below w.heap.size w w' := fun w => (h2 w).mono (by
      rintro e w1 ⟨a, c, rfl, hb1, _, h0⟩
      obtain ⟨rfl, rfl, rfl⟩ := h0 he
      exact ⟨rfl, hb1⟩)
    have hSV := fun w => sameViews_any [] (by simp) fl none none 0 0 w (ThsIn.nil _ _) (ThsIn.nil _ _)
    rw [List.length_nil] at hSV
    have hnil : ∀ w : World, (binOp .eql 30 (.slice none 0 0) (.slice none 0 0)).run Try.prog w = .ok (.bool true) w := fun w => run_eql_nil_slice w _ _ none 0 0 0 0 Try.underlying30
    clear h1 h2 hl5 hsch
    go_enter Try.func5, Try.ntmps5
    go_wp2_with (first
      | (go_at_call 19; refine (h1' _).mono ?_; rintro e w1 ⟨rfl, hb1⟩)
      | (go_at_call 20; refine (h2' _).mono ?_; rintro e w2 ⟨rfl, hb2⟩; obtain ⟨hc, hz, hlt, _⟩ := below_new hb2; have q0 : w2.cell? ⟨w1.heap.size, 0, none⟩ = some (.slice none 0 0) := hc 0 _ rfl; have q1 : w2.cell? ⟨w1.heap.size, 1, none⟩ = some (.string fl) := hc 1 _ rfl; clear hc; have q0' := cell_later ((Below.refl _ _).alloc (Nat.le_refl _) (.cells #[.slice none 0 0, .string fl] 32)) q0)
      | (go_at_call 21; refine (hSV _).mono ?_; rintro e w3 ⟨rfl, hb3⟩; have r0 := cell_later hb3 q0'))
    go_ret
    have hX := ((Below.refl w1.heap.size w1).alloc (Nat.le_refl _) (.cells #[.slice none 0 0, .string fl] 32)).trans ((hb2.alloc hb2.size (.cells #[.slice none 0 0, .string fl] 32)).mono (by simp))
    have hY := hX.trans (hb3.mono hX.size)
    exact ⟨rfl, hb1.trans (hY.mono hb1.size)⟩

set_option maxRecDepth 100000 in
theorem Replays_lifted (os : Os) (started : os.Started) (H : Type) (enc : TypeId × Value → H) :
    ReturnsInHanded {} Try.checked os 5 .any (Rows.replaysSpec.pre6 enc Try.prog Try.f5 Rows.replaysRow.domain false) (Rows.replaysSpec.post enc Try.prog Try.f5 false true false false) := by
  refine returnsInHanded_of_change (C := Try.checked) Try.own started (by kernel_rfl) Try.func5
    (ChangeSpec.witness6 (enc := enc) (C := Try.checked) false ⟨#[], #[.string ByteArray.empty, .string ByteArray.empty], []⟩ 8 (by kernel_rfl) (by kernel_rfl) (by kernel_rfl) (by kernel_rfl)) ?_
  intro W base args ds gs before hval0 hW _ _
  have hval : ∀ (j : Nat) t v, Try.f5.params[j]? = some t → args[j]? = some v → Value.okWide Try.prog W .any base t v := hval0
  have hW' := hW
  obtain ⟨p, q, hA0, hV, rfl, hfz, hnd⟩ := hW
  have hA : DataW.TrodAll enc Try.prog W 0 (fun _ => true) true Try.f5.params.toList args.toList ds p := hA0
  rw [Try.params5] at hA hval
  obtain ⟨v0, vs0, d0, ds0, p0, q0, hargs, rfl, rfl, h0, r0⟩ := trodAll_cons hA
  obtain ⟨v1, vs1, d1, ds1, p1, q1, hvs0, rfl, rfl, h1, r1⟩ := trodAll_cons r0
  obtain ⟨rfl, rfl, rfl⟩ := trodAll_nil r1
  subst hvs0
  obtain rfl : args = #[v0, v1] := by cases args; simp_all
  obtain ⟨rfl, rfl⟩ := trodVars_none hV
  obtain ⟨a0, rfl, rfl, rfl, w0⟩ := open_string Try.underlying9 (hval 0 9 v0 rfl rfl) h0
  obtain ⟨a1, rfl, rfl, rfl, w1⟩ := open_string Try.underlying9 (hval 1 9 v1 rfl rfl) h1
  clear hA0 hval0
  refine (Replays_walk a0 a1 w1 W).mono fun e W' ⟨he, bel⟩ => ?_
  subst he
  exact ⟨_, rfl, _, _, _, [], _, [], hW', trodAll_mk1 (shut_bool Try.underlying4 _), (trodAll_cons_mk (shut_string Try.underlying9 w0) (trodAll_cons_mk (shut_string Try.underlying9 w1) trodAll_mk0)), rfl, bel.frame _, fun h => by cases h⟩

theorem replays_holds : Rows.ReplaysSaid :=
  OpenClaim.holds_of_wide 5 Try.f5 rfl rfl rfl rfl rfl rfl rfl ⟨rfl, rfl, rfl, rfl, rfl⟩ rfl rfl rfl rfl rfl (by kernel_rfl) Try.func5 (by kernel_rfl)
    (of_decide_eq_true (by kernel_rfl)) (by unfold Func.isWrapper; first | (rw [if_pos (by decide +kernel)]; kernel_rfl) | (rw [if_neg (by decide +kernel)]; exact ⟨rfl, rfl⟩))
    (fun os started H enc _ => Replays_lifted os started H enc)
#print axioms replays_holds
end Go.Proofs.Ytdfndcbakcmgiaa
