import Derived.Test.YtdfndcbakcmgiabDoorE10
namespace Go.Proofs.YtdfndcbakcmgiabDoor
open Go.RowKit
attribute [local go_sem ↓] loadS_fold storeS_fold zeroS_fold

/-- How a run has ended in which nobody may move. -/
def endL (L : List (List Stp)) (s : MS) (t : Nat) : Int :=
  if t < L.length then (if (lookM L s t).1 ≠ 0 ∧ (lookM L s t).1 ≠ 4 then 2 else endL L s (t + 1)) else 1
termination_by L.length - t

set_option maxHeartbeats 2000000 in
theorem endOf_any (V : Value) (L : List (List Stp)) (s : MS) (ok : s.Ok) (w : World) (B : Nat) (hp : ProgIn w B V L) (po : PO L) :
    Calls Tryd.prog 42 #[.agg #[V], .agg s.cells] w fun e w' => e = .returned (.int .i64 (endL L s 0)) ∧ Below w.heap.size w w' := by
  have HP : Hid (ProgIn (boxes w V s) B V L) := (hp.alloc (.cells #[V] 60)).alloc (.cells s.cells 79)
  have hst0 : StIn (boxes w V s) (w.heap.size + 1) s := ⟨heap_alloc2_new _ _ _, ok⟩
  have hc0 : (boxes w V s).cell? ⟨w.heap.size, 0, none⟩ = some V := cellB (heap_alloc2_old _ _ _) rfl
  have HO : Hid (PO L) := po
  have hl5 : L.length ≤ 5 := po.l5
  generalize hpost : endL L s 0 = post
  have HE0 : Hid (endL L s 0 = post) := hpost
  clear hpost hp po
  go_enter Tryd.func42, Tryd.ntmps42
  go_wp2
  go_loopw [5] (fun i wr => ∃ t : Nat, t ≤ L.length ∧ i = .int .i64 t ∧ Hid (endL L s t = post) ∧ Below (boxes w V s).heap.size (boxes w V s) wr) (fun i _ => L.length - (intOf i).toNat)
  case atStart => exact ⟨0, by omega, rfl, HE0, Below.refl _ _⟩
  case round =>
    obtain ⟨t, ht, rfl, HE, hB⟩ := hrel
    have hsr := hst0.below hB
    have p0 := cell_later hB hc0
    have hT := Threads_any V L wr B (HP.out.below hB)
    clear HE0
    by_cases htn : t < L.length
    · have hK := fun w' hw => Look_in V L s ok w' B ((HP.out.below hB).below (w' := w') hw) HO.out.l5 HO.out.sok t htn _ rfl
      have htl : (t : Int) < (L.length : Int) := by omega
      have HE1 : Hid ((if (lookM L s t).1 ≠ 0 ∧ (lookM L s t).1 ≠ 4 then 2 else endL L s (t + 1)) = post) := by
        have := HE.out; rw [endL, if_pos htn] at this; exact this
      generalize lookM L s t = ab at *
      obtain ⟨a, b⟩ := ab
      clear HE
      by_cases ha : a ≠ 0 ∧ a ≠ 4
      · have hpo : post = 2 := by have := HE1.out; rw [if_pos ha] at this; exact this.symm
        have a0 : (a != 0) = true := by simpa using ha.1
        have a4 : (a != 4) = true := by simpa using ha.2
        have a0' : (a == 0) = false := by simpa using ha.1
        have a4' : (a == 4) = false := by simpa using ha.2
        subst hpo
        clear HE1 ha
        go_wp2_with (first
          | (go_at_call 52; refine hT.mono ?_; rintro e w1 ⟨rfl, hb1⟩; have p1 := cell_later hb1 p0; have hld := (hsr.below hb1).loadS)
          | (go_at_call 57; refine (hK _ hb1).mono ?_; rintro e w2 ⟨he, hb2⟩; rw [pairV] at he; subst he))
        go_ret
        exact ⟨rfl, (two_new (hB.trans ((hb1.trans (hb2.mono hb1.size)).mono hB.size))).2.2.1⟩
      · have HE2 : Hid (endL L s (t + 1) = post) := by have := HE1.out; rw [if_neg ha] at this; exact this
        have ha' : a = 0 ∨ a = 4 := by omega
        clear HE1 ha
        rcases ha' with rfl | rfl
        all_goals
          go_wp2_with (first
            | (go_at_call 52; refine hT.mono ?_; rintro e w1 ⟨rfl, hb1⟩; have p1 := cell_later hb1 p0; have hld := (hsr.below hb1).loadS)
            | (go_at_call 57; refine (hK _ hb1).mono ?_; rintro e w2 ⟨he, hb2⟩; rw [pairV] at he; subst he))
          go_roundw
          case rel => exact ⟨t + 1, by omega, rfl, HE2, hB.trans ((hb1.trans (hb2.mono hb1.size)).mono hB.size)⟩
          case measure => simp [intOf]; omega
    · have hpo : post = 1 := by have := HE.out; rw [endL, if_neg htn] at this; exact this.symm
      subst hpo
      have htl : ¬ (t : Int) < (L.length : Int) := by omega
      clear HE
      go_wp2_with (first
        | (go_at_call 52; refine hT.mono ?_; rintro e w1 ⟨rfl, hb1⟩))
      go_ret
      exact ⟨rfl, (two_new (hB.trans (hb1.mono hB.size))).2.2.1⟩
end Go.Proofs.YtdfndcbakcmgiabDoor
namespace Go.Proofs.YtdfndcbakcmgiabDoor
open Go.RowKit
attribute [local go_sem ↓] loadS_fold storeS_fold zeroS_fold

theorem infoU8 : (Tryd.prog.info? 5).map (fun i => (i.zero, i.size, i.bytes)) = some (some (.int .u8 0), 1, 1) := by kernel_rfl

theorem below_grown {n : Nat} {w wr w2 : World} {row : Option Nat} (hb : Below n w wr) (hn : n ≤ wr.heap.size) (hg : wr.grownBy w2 row) (hr : ∀ k, row = some k → n ≤ k) : Below n w w2 :=
  ⟨hg.os.trans hb.os, hg.tape.trans hb.tape, hg.output.trans hb.output, Nat.le_trans hb.size hg.size, fun k hk => (hg.block k (by omega) (fun e => by have := hr k e.symm; omega)).trans (hb.block k hk)⟩

def mayB (L : List (List Stp)) (s : MS) (t : Nat) : Bool := decide ((lookM L s t).1 = 1 ∨ (lookM L s t).1 = 5)
/-- The threads that may move, up to t. -/
def moversL (L : List (List Stp)) (s : MS) (t : Nat) : List Nat := (List.range t).filter (mayB L s)
theorem moversL_yes {L : List (List Stp)} {s : MS} {t : Nat} (h : mayB L s t = true) : moversL L s (t + 1) = moversL L s t ++ [t] := by simp [moversL, List.range_succ, h]
theorem moversL_no {L : List (List Stp)} {s : MS} {t : Nat} (h : mayB L s t = false) : moversL L s (t + 1) = moversL L s t := by simp [moversL, List.range_succ, h]
theorem moversL_len (L : List (List Stp)) (s : MS) (t : Nat) : (moversL L s t).length ≤ t := by
  have := List.length_filter_le (mayB L s) (List.range t)
  simpa [moversL] using this

theorem ownsRow_mono {w : World} {B B' : Nat} {e : TypeId} {size n : Nat} {v : Value} {xs : List Value} (h : w.ownsRow B e size v n xs) (hB : B' ≤ B) : w.ownsRow B' e size v n xs := by
  obtain ⟨h1, h2⟩ := h
  refine ⟨h1, ?_⟩
  rcases h2 with h2 | ⟨g, cap, cur, a, b, c⟩
  · exact .inl h2
  · exact .inr ⟨g, cap, cur, a, Nat.le_trans hB b, c⟩
theorem row_form {w : World} {B : Nat} {e : TypeId} {size n : Nat} {v : Value} {xs : List Value} (h : w.ownsRow B e size v n xs) (hn : v.ownBlock ≠ none) : ∃ g cap, v = .slice (some ⟨g, 0, none⟩) n cap := by
  obtain ⟨g, cap, hv, _⟩ := RowD.at.form (r := ⟨e, size, v, n, xs⟩) ⟨h, hn⟩
  exact ⟨g, cap, hv⟩
/-- A list of ints that a call owns, in a slice that is not nil. -/
def IntsIn (w : World) (B : Nat) (v : Value) (l : List Nat) : Prop :=
  ∃ g cap, v = .slice (some ⟨g, 0, none⟩) l.length cap ∧ w.ownsRow B 3 1 v l.length (l.map fun (n : Nat) => Value.int .i64 (n : Int))

set_option maxRecDepth 100000 in
set_option maxHeartbeats 2000000 in
theorem listMovers_any (V : Value) (L : List (List Stp)) (s : MS) (ok : s.Ok) (w : World) (B : Nat) (hp : ProgIn w B V L) (po : PO L) :
    Calls Tryd.prog 41 #[.agg #[V], .agg s.cells] w fun e w' => ∃ v, e = .returned v ∧ IntsIn w' w.heap.size v (moversL L s L.length) ∧ Below w.heap.size w w' := by
  have HP : Hid (ProgIn (boxes w V s) B V L) := (hp.alloc (.cells #[V] 60)).alloc (.cells s.cells 79)
  have hst0 : StIn (boxes w V s) (w.heap.size + 1) s := ⟨heap_alloc2_new _ _ _, ok⟩
  have hc0 : (boxes w V s).cell? ⟨w.heap.size, 0, none⟩ = some V := cellB (heap_alloc2_old _ _ _) rfl
  have HO : Hid (PO L) := po
  have hl5 : L.length ≤ 5 := po.l5
  have hbs : (boxes w V s).heap.size = w.heap.size + 2 := by simp
  clear hp po
  go_enter Tryd.func41, Tryd.ntmps41
  go_wp2
  go_loopw [5, 6] (fun v i wr => ∃ t g cap : Nat, t ≤ L.length ∧ i = .int .i64 t ∧ v = .slice (some ⟨g, 0, none⟩) (moversL L s t).length cap ∧ wr.ownsRow (w.heap.size + 2) 3 1 (.slice (some ⟨g, 0, none⟩) (moversL L s t).length cap) (moversL L s t).length ((moversL L s t).map fun (n : Nat) => Value.int .i64 (n : Int)) ∧ Below (w.heap.size + 2) (boxes w V s) wr) (fun _ i _ => L.length - (intOf i).toNat)
  case atStart =>
    refine ⟨0, w.heap.size + 2, 0, by omega, rfl, rfl, ?_, ?_⟩
    · have h := World.ownsRow_lit (boxes w V s) (base := w.heap.size + 2) (e := 3) (size := 1) #[] 0 (by simp) (Nat.zero_le _) rfl
      simpa [moversL] using h
    · rw [← hbs]; exact (Below.refl _ _).alloc (Nat.le_refl _) _
  case round =>
    obtain ⟨t, g, cap, ht, rfl, rfl, hown, hB⟩ := hrel
    have hB' : Below (boxes w V s).heap.size (boxes w V s) wr := by rw [hbs]; exact hB
    have hsr := hst0.below hB'
    have p0 := cell_later hB' hc0
    have hT := Threads_any V L wr B (HP.out.below hB')
    have hmv := moversL_len L s t
    have hgl := hown.lt g rfl
    by_cases htn : t < L.length
    · have hK := fun w' hw => Look_in V L s ok w' B ((HP.out.below hB').below (w' := w') hw) HO.out.l5 HO.out.sok t htn _ rfl
      have htl : (t : Int) < (L.length : Int) := by omega
      have HY : Hid (mayB L s t = decide ((lookM L s t).1 = 1 ∨ (lookM L s t).1 = 5)) := rfl
      generalize lookM L s t = ab at *
      obtain ⟨a, b⟩ := ab
      by_cases ha : a = 1 ∨ a = 5
      · have hy : Hid (mayB L s t = true) := by rw [Hid, HY.out]; simpa using ha
        clear HY
        rcases ha with rfl | rfl
        · go_wp2_with (first
            | (go_at_call 52; refine hT.mono ?_; rintro e w1 ⟨rfl, hb1⟩; have p1 := cell_later hb1 p0; have hld := (hsr.below hb1).loadS)
            | (go_at_call 57; refine (hK _ hb1).mono ?_; rintro e w2 ⟨he, hb2⟩; rw [pairV] at he; subst he; have hB2 := hb1.trans (hb2.mono hb1.size); have hown2 := hown.kept (grownBy_of_below hB2) (.inr (by simp [Value.ownBlock])))
            | (at_builtin; go_loud (refine wpList_appendLit _ rfl _ _ 22 rfl (w.heap.size + 2) 3 (.int .i64 0) 1 8 Tryd.underlying22 infoInt rfl (by decide) _ _ _ rfl hown2 _ _ rfl rfl rfl ?c2 ?c3 ?c4 ?c5 ?_)))
          case c2 => rfl
          case c3 => omega
          case c4 => omega
          case c5 => have := hB.size; have := hB2.size; omega
          intro v' w3 ho3 hg3 hf3 hn3
          have hB3 : Below (w.heap.size + 2) (boxes w V s) w3 := by
            have h1 := hB.trans (hB2.mono (by have := hB.size; omega))
            exact below_grown (h1.alloc (by have := h1.size; omega) _) (by have := h1.size; simp; omega) hg3 (fun k hk => by simp [Value.ownBlock] at hk; omega)
          obtain ⟨g', cap', hv3⟩ := row_form ho3 hn3
          subst hv3
          have hml := moversL_yes hy.out
          clear hg3 hf3 hn3 hB2 hown2 hown hb1 hb2
          go_wp2
          go_roundw
          case rel =>
            refine ⟨t + 1, g', cap', by omega, rfl, by rw [hml]; simp, ?_, hB3⟩
            rw [hml]
            simpa using ho3
          case measure => simp [intOf]; omega
        · go_wp2_with (first
            | (go_at_call 52; refine hT.mono ?_; rintro e w1 ⟨rfl, hb1⟩; have p1 := cell_later hb1 p0; have hld := (hsr.below hb1).loadS)
            | (go_at_call 57; refine (hK _ hb1).mono ?_; rintro e w2 ⟨he, hb2⟩; rw [pairV] at he; subst he; have hB2 := hb1.trans (hb2.mono hb1.size); have hown2 := hown.kept (grownBy_of_below hB2) (.inr (by simp [Value.ownBlock])))
            | (at_builtin; go_loud (refine wpList_appendLit _ rfl _ _ 22 rfl (w.heap.size + 2) 3 (.int .i64 0) 1 8 Tryd.underlying22 infoInt rfl (by decide) _ _ _ rfl hown2 _ _ rfl rfl rfl ?d2 ?d3 ?d4 ?d5 ?_)))
          case d2 => rfl
          case d3 => omega
          case d4 => omega
          case d5 => have := hB.size; have := hB2.size; omega
          intro v' w3 ho3 hg3 hf3 hn3
          have hB3 : Below (w.heap.size + 2) (boxes w V s) w3 := by
            have h1 := hB.trans (hB2.mono (by have := hB.size; omega))
            exact below_grown (h1.alloc (by have := h1.size; omega) _) (by have := h1.size; simp; omega) hg3 (fun k hk => by simp [Value.ownBlock] at hk; omega)
          obtain ⟨g', cap', hv3⟩ := row_form ho3 hn3
          subst hv3
          have hml := moversL_yes hy.out
          clear hg3 hf3 hn3 hB2 hown2 hown hb1 hb2
          go_wp2
          go_roundw
          case rel =>
            refine ⟨t + 1, g', cap', by omega, rfl, by rw [hml]; simp, ?_, hB3⟩
            rw [hml]
            simpa using ho3
          case measure => simp [intOf]; omega
      · have hy : Hid (mayB L s t = false) := by rw [Hid, HY.out]; simpa using ha
        have a1 : (a == 1) = false := beq_false_of_ne (by omega)
        have a5 : (a == 5) = false := beq_false_of_ne (by omega)
        have hml := moversL_no hy.out
        clear HY ha
        go_wp2_with (first
            | (go_at_call 52; refine hT.mono ?_; rintro e w1 ⟨rfl, hb1⟩; have p1 := cell_later hb1 p0; have hld := (hsr.below hb1).loadS)
            | (go_at_call 57; refine (hK _ hb1).mono ?_; rintro e w2 ⟨he, hb2⟩; rw [pairV] at he; subst he; have hB2 := hb1.trans (hb2.mono hb1.size); have hown2 := hown.kept (grownBy_of_below hB2) (.inr (by simp [Value.ownBlock]))))
        go_roundw
        case rel =>
          have h1 := hB.trans (hB2.mono (by have := hB.size; omega))
          refine ⟨t + 1, g, cap, by omega, rfl, by rw [hml], ?_, h1⟩
          rw [hml]
          exact hown2
        case measure => simp [intOf]; omega
    · have hte : t = L.length := by omega
      have htl : ¬ (t : Int) < (L.length : Int) := by omega
      go_wp2_with (first
        | (go_at_call 52; refine hT.mono ?_; rintro e w1 ⟨rfl, hb1⟩))
      go_ret
      have h1 := hB'.trans (hb1.mono hB'.size)
      have ho1 := hown.kept (grownBy_of_below hb1) (.inr (by simp [Value.ownBlock]))
      subst hte
      exact ⟨_, rfl, ⟨g, cap, rfl, ownsRow_mono ho1 (by omega)⟩, (two_new h1).2.2.1⟩
end Go.Proofs.YtdfndcbakcmgiabDoor
