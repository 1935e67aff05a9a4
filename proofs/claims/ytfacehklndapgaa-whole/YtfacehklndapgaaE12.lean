import Derived.Test.YtfacehklndapgaaE11
namespace Go.Proofs.Ytfacehklndapgaa
open Go.RowKit
attribute [local go_sem ↓] loadS_fold storeS_fold zeroS_fold

/-- How a run has ended in which nobody may move. -/
def endL (L : List (List Stp)) (s : MS) (t : Nat) : Int :=
  if t < L.length then (if (lookM L s t).1 ≠ 0 ∧ (lookM L s t).1 ≠ 4 then 2 else endL L s (t + 1)) else 1
termination_by L.length - t

set_option maxHeartbeats 2000000 in
theorem endOf_any (V : Value) (L : List (List Stp)) (s : MS) (ok : s.Ok) (w : World) (B : Nat) (hp : ProgIn w B V L) (po : PO L) :
    Calls Try.prog 75 #[.agg #[V], .agg s.cells] w fun e w' => e = .returned (.int .i64 (endL L s 0)) ∧ Below w.heap.size w w' := by
  have HP : Hid (ProgIn (boxes w V s) B V L) := (hp.alloc (.cells #[V] 69)).alloc (.cells s.cells 92)
  have hst0 : StIn (boxes w V s) (w.heap.size + 1) s := ⟨heap_alloc2_new _ _ _, ok⟩
  have hc0 : (boxes w V s).cell? ⟨w.heap.size, 0, none⟩ = some V := cellB (heap_alloc2_old _ _ _) rfl
  have HO : Hid (PO L) := po
  have hl5 : L.length ≤ 5 := po.l5
  generalize hpost : endL L s 0 = post
  have HE0 : Hid (endL L s 0 = post) := hpost
  clear hpost hp po
  go_enter Try.func75, Try.ntmps75
  go_wp2
  go_loopw [5] (fun i wr => ∃ t : Nat, t ≤ L.length ∧ i = .int .i64 t ∧ Hid (endL L s t = post) ∧ Below (boxes w V s).heap.size (boxes w V s) wr) (fun i _ => L.length - (intOf i).toNat)
  case atStart => exact ⟨0, by omega, rfl, HE0, Below.refl _ _⟩
  case round =>
    obtain ⟨t, ht, rfl, HE, hB⟩ := hrel
    have hsr := hst0.below hB
    have p0 := cell_later hB hc0
    have hT := Threads_any V L wr B (HP.out.below hB)
    clear HE0
    by_cases htn : t < L.length
    · have hK := fun w' hw => Look_in V L s ok w' B ((HP.out.below hB).below (w' := w') hw) HO.out.l5 HO.out.sok t htn _ rfl
      have htl : (t : Int) < (L.length : Int) := by omega
      have HE1 : Hid ((if (lookM L s t).1 ≠ 0 ∧ (lookM L s t).1 ≠ 4 then 2 else endL L s (t + 1)) = post) := by
        have := HE.out; rw [endL, if_pos htn] at this; exact this
      generalize lookM L s t = ab at *
      obtain ⟨a, b⟩ := ab
      clear HE
      by_cases ha : a ≠ 0 ∧ a ≠ 4
      · have hpo : post = 2 := by have := HE1.out; rw [if_pos ha] at this; exact this.symm
        have a0 : (a != 0) = true := by simpa using ha.1
        have a4 : (a != 4) = true := by simpa using ha.2
        have a0' : (a == 0) = false := by simpa using ha.1
        have a4' : (a == 4) = false := by simpa using ha.2
        subst hpo
        clear HE1 ha
        go_wp2_with (first
          | (go_at_call 78; refine hT.mono ?_; rintro e w1 ⟨rfl, hb1⟩; have p1 := cell_later hb1 p0; have hld := (hsr.below hb1).loadS)
          | (go_at_call 93; refine (hK _ hb1).mono ?_; rintro e w2 ⟨he, hb2⟩; rw [pairV] at he; subst he))
        go_ret
        exact ⟨rfl, (two_new (hB.trans ((hb1.trans (hb2.mono hb1.size)).mono hB.size))).2.2.1⟩
      · have HE2 : Hid (endL L s (t + 1) = post) := by have := HE1.out; rw [if_neg ha] at this; exact this
        have ha' : a = 0 ∨ a = 4 := by omega
        clear HE1 ha
        rcases ha' with rfl | rfl
        all_goals
          go_wp2_with (first
            | (go_at_call 78; refine hT.mono ?_; rintro e w1 ⟨rfl, hb1⟩; have p1 := cell_later hb1 p0; have hld := (hsr.below hb1).loadS)
            | (go_at_call 93; refine (hK _ hb1).mono ?_; rintro e w2 ⟨he, hb2⟩; rw [pairV] at he; subst he))
          go_roundw
          case rel => exact ⟨t + 1, by omega, rfl, HE2, hB.trans ((hb1.trans (hb2.mono hb1.size)).mono hB.size)⟩
          case measure => simp [intOf]; omega
    · have hpo : post = 1 := by have := HE.out; rw [endL, if_neg htn] at this; exact this.symm
      subst hpo
      have htl : ¬ (t : Int) < (L.length : Int) := by omega
      clear HE
      go_wp2_with (first
        | (go_at_call 78; refine hT.mono ?_; rintro e w1 ⟨rfl, hb1⟩))
      go_ret
      exact ⟨rfl, (two_new (hB.trans (hb1.mono hB.size))).2.2.1⟩
end Go.Proofs.Ytfacehklndapgaa
