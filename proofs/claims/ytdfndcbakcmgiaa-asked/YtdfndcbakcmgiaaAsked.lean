import Derived.Test.YtdfndcbakcmgiaaT24
import Derived.Test.YtdfndcbakcmgiaaT18
import Derived.Test.YtdfndcbakcmgiaaChecks
namespace Go.Proofs.Ytdfndcbakcmgiaa
open Go.ChangeShapes Go.WideShapes Go.ChangeAt Go.RowKit
open Go.ChangeMaps (open_string shut_string)

theorem AksAt.grown {X w : World} {r : Option Nat} {a : Option Addr} {l : List Ak} (h : AksAt X a l) (hg : X.grownBy w r) (hne : ∀ p, a = some p → some p.block ≠ r) : AksAt w a l := fun k x hx => by
  obtain ⟨g, rfl, c0, c1, c2, c3, c4⟩ := h k x hx
  have hb := hg.block g (World.block_lt_of_cell? X _ c0) (hne _ rfl)
  refine ⟨g, rfl, ?_, ?_, ?_, ?_, ?_⟩
  · rw [World.cell?_of_block (w := X) (a := ⟨g, k * 5, none⟩) hb]; exact c0
  · rw [World.cell?_of_block (w := X) (a := ⟨g, k * 5 + 1, none⟩) hb]; exact c1
  · rw [World.cell?_of_block (w := X) (a := ⟨g, k * 5 + 2, none⟩) hb]; exact c2
  · rw [World.cell?_of_block (w := X) (a := ⟨g, k * 5 + 3, none⟩) hb]; exact c3
  · rw [World.cell?_of_block (w := X) (a := ⟨g, k * 5 + 4, none⟩) hb]; exact c4

set_option maxRecDepth 100000 in
set_option maxHeartbeats 8000000 in
theorem Asked_walk (s sch : ByteArray) (hsch : sch.size ≤ maxLen) (w : World) :
    Calls Try.prog 6 #[.string s, .string sch] w fun e w' => e = .returned (.bool true) ∧ Below w.heap.size w w' := by
  obtain ⟨L, x, hL, hP, hQ⟩ := asks_both s sch hsch
  go_enter Try.func6, Try.ntmps6
  go_upto_region 2 with (first | (go_at_call 22; refine (hP _).mono ?_; rintro e w1 ⟨al, cl, rfl, hb1, ho1, hx1⟩))
  go_upto_region 3 with (first | (go_at_call 23; refine (hQ _).mono ?_; rintro e w2 ⟨am, cm, rfl, hb2, ho2, hx2⟩))
  have j1 := (aksAt_row rfl ho1).below hb2
  have j2 := aksAt_row rfl ho2
  have bl : ∀ p, al = some p → w.heap.size ≤ p.block ∧ p.block < w1.heap.size := fun p hp => by subst hp; exact ho1.lt p.block rfl
  have bm : ∀ p, am = some p → w1.heap.size ≤ p.block ∧ p.block < w2.heap.size := fun p hp => by subst hp; exact ho2.lt p.block rfl
  have hS := fun (z : Option Addr) (cz : Nat) w' ha hb => sameAsks_true z am cz cm L (by omega) w' ha hb
  have hSL := fun w' ha hb => sameAsks_true al am cl cm L (by omega) w' ha hb
  go_upto_region 4 with (first | (go_at_call 24; refine (hSL _ j1 j2).mono ?_; rintro e w3 ⟨rfl, hb3⟩))
  have hB1 := hb1
  have hB2 := hB1.trans (hb2.mono hB1.size)
  have hB3 := hB2.trans (hb3.mono hB2.size)
  have o3 := ownsRow_below (ownsRow_below ho1 hb2) hb3
  have j2' := j2.below hb3
  have hs1 := hb1.size
  have hs2 := hb2.size
  have hs3 := hb3.size
  have key : (x != 0) = false ∨ ((x != 0) = true ∧ al = none) := by
    by_cases hx : x = 0
    · exact .inl (by simp [hx])
    · exact .inr ⟨by simpa using hx, hx1 hx⟩
  have hCl := hP w3
  clear hP hQ ho1 ho2 hx1 hx2 j1 j2 hb1 hb2 hb3
  go_cut [43] (fun v wc => v = .bool false ∧ wc = w3)
  case first =>
    rcases key with hx0 | ⟨hx1, hal⟩
    · go_wp2
      go_meet
      case rel => exact ⟨rfl, rfl⟩
    · subst hal
      go_wp2
      go_meet
      case rel => exact ⟨rfl, rfl⟩
  case rest =>
    obtain ⟨rfl, hwc⟩ := hcut
    have hwd := hwc.symm
    clear hwc
    subst hwd
    go_upto_region 7 with (first | (go_at_call 22; refine hCl.mono ?_; rintro e w7 ⟨aa, cc, rfl, hb7, ho7, hx7⟩))
    have o7 := ownsRow_below o3 hb7
    have hform : (al = none ∧ cl = 0) ∨ ∃ g cur, al = some ⟨g, 0, none⟩ ∧ w7.heap[g]? = some (.cells cur 42 (0, 0)) ∧ cur.size = cl * 5 ∧ w.heap.size ≤ g ∧ g < w1.heap.size ∧ cl ≤ maxLen := by
      rcases o7.2 with ⟨h1, _⟩ | ⟨g, cap, cur, h1, _, h3, _, h5, h6, _⟩
      · simp only [Value.slice.injEq] at h1
        exact .inl ⟨h1.1, h1.2.2⟩
      · simp only [Value.slice.injEq] at h1
        obtain ⟨rfl, _, rfl⟩ := h1
        obtain ⟨h7, h8⟩ := bl _ rfl
        exact .inr ⟨g, cur, rfl, h3, h6, h7, h8, h5⟩
    have hlL : L.length ≤ cl := by
      rcases o7.2 with ⟨h1, h2⟩ | ⟨g, cap, cur, h1, _, _, h4, _⟩
      · omega
      · simp only [Value.slice.injEq] at h1
        omega
    have j7 := aksAt_row rfl ho7
    have b7 : ∀ p, aa = some p → w3.heap.size ≤ p.block ∧ p.block < w7.heap.size := fun p hp => by subst hp; exact ho7.lt p.block rfl
    have j4 := j2'.below hb7
    have hB7 := hB3.trans (hb7.mono hB3.size)
    clear o3 o7 ho7 hCl hx7 key j2'
    go_cut [12] (fun v wc => v = .slice al cl cl ∧ wc = w7)
    case first =>
      rcases hform with ⟨h1, h2⟩ | ⟨g, cur, h1, _, _, _, _, hm⟩
      · subst h1 h2
        go_wp2
        go_meet
        case rel => exact ⟨rfl, rfl⟩
      · subst h1
        unfold maxLen at hm
        have c0 : (0 : Int) ≤ (cl : Int) := by omega
        go_wp2
        go_meet
        case rel => exact ⟨rfl, rfl⟩
    case rest =>
      obtain ⟨rfl, hwc⟩ := hcut
      have hwd := hwc.symm
      clear hwc
      subst hwd
      obtain ⟨bk, hbk, hbn⟩ : ∃ bk : Option Nat, (∀ p, al = some p → bk = some p.block) ∧ (∀ k, bk = some k → w.heap.size ≤ k ∧ k < w1.heap.size) := by
        rcases hform with ⟨h1, _⟩ | ⟨g, cur, h1, _, _, h7, h8, _⟩
        · exact ⟨none, (fun p hp => by rw [h1] at hp; cases hp), (fun k hk => by cases hk)⟩
        · exact ⟨some g, (fun p hp => by rw [h1] at hp; cases hp; rfl), (fun k hk => by cases hk; exact ⟨h7, h8⟩)⟩
      go_wp2
      go_loopw [13] (fun i wr => ∃ k : Nat, k ≤ cl ∧ i = .int .i64 (k : Int) ∧ w7.grownBy wr bk ∧ (∀ g cur, al = some ⟨g, 0, none⟩ → w7.heap[g]? = some (.cells cur 42 (0, 0)) → ∃ cur', wr.heap[g]? = some (.cells cur' 42 (0, 0)) ∧ cur'.size = cur.size)) (fun i _ => cl - (intOf i).toNat)
      case atStart => exact ⟨0, Nat.zero_le _, rfl, grownBy_refl _ _, fun g cur _ h => ⟨cur, h, rfl⟩⟩
      case round =>
        obtain ⟨k, hk, rfl, hgr, hrow⟩ := hrel
        by_cases hkc : k < cl
        · rcases hform with ⟨_, h2⟩ | ⟨g, cur, h1, h3, h4, h7, h8, hm⟩
          · omega
          · have hbg := hbk _ h1
            simp only at hbg
            obtain ⟨cur', hc1, hc2⟩ := hrow g cur h1 h3
            subst h1 hbg
            have ck : ∀ i, i < 5 → wr.cell? ⟨g, k * 5 + i, none⟩ = some (cur'.getD (k * 5 + i) undef) := fun i hi => by
              have hlt : k * 5 + i < cur'.size := by omega
              exact cellB hc1 (by simp [hlt])
            have ck0 := ck 0 (by omega)
            have ck1 := ck 1 (by omega)
            have ck2 := ck 2 (by omega)
            have ck3 := ck 3 (by omega)
            have ck4 := ck 4 (by omega)
            rw [Nat.add_zero] at ck0
            have zk := fun i => frozen_of_row _ _ i _ _ hc1
            unfold maxLen at hm
            have k0 : (0 : Int) ≤ (k : Int) := by omega
            have kc : (k : Int) < (cl : Int) := by omega
            clear ck
            go_wp2
            go_roundw
            case rel =>
              refine ⟨k + 1, by omega, rfl, grownBy_setCell (grownBy_setCell (grownBy_setCell (grownBy_setCell (grownBy_setCell hgr _ _) _ _) _ _) _ _) _ _, fun g2 cur2 e2 hh => ?_⟩
              simp only [Option.some.injEq, Addr.mk.injEq, and_true] at e2
              subst e2
              rw [h3] at hh
              cases hh
              exact ⟨_, heap_setCell_same _ _ (k * 5 + 4) _ _ _ (heap_setCell_same _ _ (k * 5 + 3) _ _ _ (heap_setCell_same _ _ (k * 5 + 2) _ _ _ (heap_setCell_same _ _ (k * 5 + 1) _ _ _ (heap_setCell_same _ _ (k * 5) _ _ _ hc1)))), by simpa using hc2⟩
            case measure => (simp [intOf] <;> omega)
        · have kc : ¬ (k : Int) < (cl : Int) := by omega
          have nb : ∀ m, w1.heap.size ≤ m → some m ≠ bk := fun m hm e => by have := hbn m e.symm; omega
          have jar := j7.grown hgr (fun p hp => nb _ (by have := (b7 p hp).1; omega))
          have jmr := j4.grown hgr (fun p hp => nb _ (bm p hp).1)
          have hBr : Below w.heap.size w wr := below_grown hB7 hB7.size hgr (fun m hm => (hbn m hm).1)
          clear hform hbk hrow j7 j4
          go_wp2_with (first | (go_at_call 24; refine (hS _ _ _ jar jmr).mono ?_; rintro e w9 ⟨rfl, hb9⟩))
          go_ret
          exact ⟨rfl, hBr.trans (hb9.mono hBr.size)⟩

set_option maxRecDepth 100000 in
theorem Asked_lifted (os : Os) (started : os.Started) (H : Type) (enc : TypeId × Value → H) :
    ReturnsInHanded {} Try.checked os 6 .any (Rows.askedSpec.pre6 enc Try.prog Try.f6 Rows.askedRow.domain false) (Rows.askedSpec.post enc Try.prog Try.f6 false true false false) := by
  refine returnsInHanded_of_change (C := Try.checked) Try.own started (by kernel_rfl) Try.func6
    (ChangeSpec.witness6 (enc := enc) (C := Try.checked) false ⟨#[], #[.string ByteArray.empty, .string ByteArray.empty], []⟩ 8 (by kernel_rfl) (by kernel_rfl) (by kernel_rfl) (by kernel_rfl)) ?_
  intro W base args ds gs before hval0 hW _ _
  have hval : ∀ (j : Nat) t v, Try.f6.params[j]? = some t → args[j]? = some v → Value.okWide Try.prog W .any base t v := hval0
  have hW' := hW
  obtain ⟨p, q, hA0, hV, rfl, hfz, hnd⟩ := hW
  have hA : DataW.TrodAll enc Try.prog W 0 (fun _ => true) true Try.f6.params.toList args.toList ds p := hA0
  rw [Try.params6] at hA hval
  obtain ⟨v0, vs0, d0, ds0, p0, q0, hargs, rfl, rfl, h0, r0⟩ := trodAll_cons hA
  obtain ⟨v1, vs1, d1, ds1, p1, q1, hvs0, rfl, rfl, h1, r1⟩ := trodAll_cons r0
  obtain ⟨rfl, rfl, rfl⟩ := trodAll_nil r1
  subst hvs0
  obtain rfl : args = #[v0, v1] := by cases args; simp_all
  obtain ⟨rfl, rfl⟩ := trodVars_none hV
  obtain ⟨a0, rfl, rfl, rfl, w0⟩ := open_string Try.underlying9 (hval 0 9 v0 rfl rfl) h0
  obtain ⟨a1, rfl, rfl, rfl, w1⟩ := open_string Try.underlying9 (hval 1 9 v1 rfl rfl) h1
  clear hA0 hval0
  refine (Asked_walk a0 a1 w1 W).mono fun e W' ⟨he, bel⟩ => ?_
  subst he
  exact ⟨_, rfl, _, _, _, [], _, [], hW', trodAll_mk1 (shut_bool Try.underlying4 _), (trodAll_cons_mk (shut_string Try.underlying9 w0) (trodAll_cons_mk (shut_string Try.underlying9 w1) trodAll_mk0)), rfl, bel.frame _, fun h => by cases h⟩

theorem asked_holds : Rows.AskedSaid :=
  OpenClaim.holds_of_wide 6 Try.f6 rfl rfl rfl rfl rfl rfl rfl ⟨rfl, rfl, rfl, rfl, rfl⟩ rfl rfl rfl rfl rfl (by kernel_rfl) Try.func6 (by kernel_rfl)
    (of_decide_eq_true (by kernel_rfl)) (by unfold Func.isWrapper; first | (rw [if_pos (by decide +kernel)]; kernel_rfl) | (rw [if_neg (by decide +kernel)]; exact ⟨rfl, rfl⟩))
    (fun os started H enc _ => Asked_lifted os started H enc)
#print axioms asked_holds
end Go.Proofs.Ytdfndcbakcmgiaa
