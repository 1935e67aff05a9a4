import Derived.Test.YtfdbnilopfnifaaT19
import Derived.Test.YtfdbnilopfnifaaP2
import Derived.Test.YtfdbnilopfnifaaT23
import Derived.ProofKit
import Derived.OpenShut
import Derived.ShutString
import Derived.ChangeOld
namespace Go.Proofs.Ytfdbnilopfnifaa
open Go.RowKit

theorem sameInts_len (a b : Option Addr) (ca cb n : Nat) (l : List Int) (hn : n = l.length) (hl : l.length ≤ maxLen) (w : World) (ha : IntsAt w a l) (hb : IntsAt w b l) :
    Calls Try.prog 30 #[.slice a n ca, .slice b n cb] w fun e w' => e = .returned (.bool true) ∧ Below w.heap.size w w' := by
  subst hn; exact sameInts_true a b ca cb l hl w ha hb
theorem grownBy_refl (w : World) (r : Option Nat) : w.grownBy w r := ⟨rfl, rfl, rfl, Nat.le_refl _, fun _ _ _ => rfl⟩
theorem grownBy_setCell {X w : World} {g : Nat} (h : X.grownBy w (some g)) (i : Nat) (u : Value) : X.grownBy (w.setCell ⟨g, i, none⟩ u) (some g) := by
  have hb := (Below.refl 0 w).setCell (p := ⟨g, i, none⟩) (Nat.zero_le _) u
  exact ⟨hb.os.trans h.os, hb.tape.trans h.tape, hb.output.trans h.output, Nat.le_trans h.size hb.size, fun k hk hne => (heap_setCell_other _ _ _ _ (by simpa using hne)).trans (h.block k hk hne)⟩
theorem IntsAt.grown {X w : World} {r : Option Nat} {a : Option Addr} {l : List Int} (h : IntsAt X a l) (hg : X.grownBy w r) (hne : ∀ p, a = some p → some p.block ≠ r) : IntsAt w a l := fun k x hx => by
  obtain ⟨g, o, rfl, hc⟩ := h k x hx
  refine ⟨g, o, rfl, ?_⟩
  rw [World.cell?_of_block (w := X) (a := ⟨g, o + k, none⟩) (hg.block g (World.block_lt_of_cell? X _ hc) (hne _ rfl))]
  exact hc
theorem intsAt_rowV {w : World} {B n c : Nat} {a : Option Addr} {L : List Nat} (hn : n = L.length) (h : w.ownsRow B 3 1 (.slice a n c) n (intV L)) : IntsAt w a (L.map fun (x : Nat) => (x : Int)) := fun k x hx => by
  subst hn
  rcases h.2 with ⟨h1, h2⟩ | ⟨g, cap, cur, h1, _⟩
  · have hk := (List.getElem?_eq_some_iff.1 hx).1
    simp at hk; omega
  · simp only [Value.slice.injEq] at h1
    obtain ⟨rfl, _, rfl⟩ := h1
    have hk : k < L.length := by have := (List.getElem?_eq_some_iff.1 hx).1; simpa using this
    refine ⟨g, 0, rfl, ?_⟩
    rw [Nat.zero_add, h.cellAt k (by omega)]
    simp only [List.getElem?_map, Option.map_eq_some_iff] at hx
    obtain ⟨y, hy, rfl⟩ := hx
    simp [intV, hy]
theorem own_block {w : World} {B n c : Nat} {a : Option Addr} {xs : List Value} (h : w.ownsRow B 3 1 (.slice a n c) n xs) : ∀ p, a = some p → B ≤ p.block ∧ p.block < w.heap.size := fun p hp => by
  subst hp
  exact h.lt p.block rfl

set_option maxRecDepth 100000 in
set_option maxHeartbeats 8000000 in
theorem Closes_walk (s sch : ByteArray) (hsch : sch.size ≤ maxLen) (a : Option Addr) (ca : Nat) (ev : List Int) (hl : ev.length ≤ 17592186044416) (w : World) (hA : IntsAt w a ev) :
    Calls Try.prog 8 #[.string s, .string sch, .slice a ev.length ca] w fun e w' => e = .returned (.bool true) ∧ Below w.heap.size w w' := by
  have hll : ev.length ≤ maxLen := by unfold maxLen; omega
  obtain ⟨L, x, hL60, hP, hQ⟩ := close_both s sch hsch ev hll
  obtain ⟨ev2, hev2⟩ : ∃ ev2, ev2 = ev ++ [-77, -77] := ⟨_, rfl⟩
  have hlen2 : ev2.length = ev.length + 2 := by rw [hev2]; simp
  have htk : ev2.take ev.length = ev := by rw [hev2]; simp
  have hHd := fun w hA => handed_any a ca ev hl w hA
  rw [← hev2, hlen2] at hHd
  have hInt : ∀ (w' : World) (g : Nat), w'.ownsRow g 3 1 (.slice (some ⟨g, 0, none⟩) (ev.length + 2) (ev.length + 2)) (ev.length + 2) (intZ ev2) → IntsAt w' (some ⟨g, 0, none⟩) ev2 := fun w' g h => by
    rw [← hlen2] at h
    exact intsAt_row h
  have n0 : (0 : Int) ≤ (ev.length : Int) := by omega
  have HL2 : Hid (ev2.length = ev.length + 2) := hlen2
  have HTK : Hid (ev2.take ev.length = ev) := htk
  clear hev2 hlen2 htk
  go_enter Try.func8, Try.ntmps8
  go_upto_region 3 with (first | (go_at_call 27; refine (hHd _ hA).mono ?_; rintro e w1 ⟨rfl, hb1, ho1⟩))
  go_upto_region 4 with (first | (go_at_call 27; refine (hHd _ (hA.below hb1)).mono ?_; rintro e w2 ⟨rfl, hb2, ho2⟩))
  have i1 := (hInt _ _ ho1).below hb2
  have i2 := hInt _ _ ho2
  have hl1 : w.heap.size < w1.heap.size := (ho1.lt w.heap.size rfl).2
  have hl2 : w1.heap.size < w2.heap.size := (ho2.lt w1.heap.size rfl).2
  have iT : IntsAt w2 (some ⟨w.heap.size, 0, none⟩) ev := by have := i1.take ev.length; rw [HTK.out] at this; exact this
  have hB2 := hb1.trans (hb2.mono hb1.size)
  have iA := hA.below hB2
  clear hHd hInt ho1 ho2 hA
  go_upto_region 5 with (first | (go_at_call 28; refine (hP _ _ _ _ rfl iT).mono ?_; rintro e w3 ⟨al, cl, rfl, hb3, ho3, hx3⟩))
  go_upto_region 6 with (first | (go_at_call 29; refine (hQ _ _ _ _ rfl (iA.below hb3)).mono ?_; rintro e w4 ⟨am, cm, rfl, hb4, ho4, hx4⟩))
  have j3 := (intsAt_rowV rfl ho3).below hb4
  have j4 := intsAt_rowV rfl ho4
  have bl := own_block ho3
  have bm := own_block ho4
  obtain ⟨Lz, hLz⟩ : ∃ Lz, (L.map fun (x : Nat) => (x : Int)) = Lz := ⟨_, rfl⟩
  have HLZ : Hid (L.length = Lz.length) := by rw [Hid, ← hLz]; simp
  have hLm : Lz.length ≤ maxLen := by rw [← HLZ.out]; unfold maxLen; omega
  have hIV : ∀ (w' : World) (B c : Nat) (z : Option Addr), w'.ownsRow B 3 1 (.slice z L.length c) L.length (intV L) → IntsAt w' z Lz := fun w' B c z h => by rw [← hLz]; exact intsAt_rowV rfl h
  rw [hLz] at j3 j4
  clear hLz
  have hE2 : ev2.length ≤ maxLen := by rw [HL2.out]; unfold maxLen; omega
  have hSL := fun w' ha hb => sameInts_len al am cl cm L.length Lz HLZ.out hLm w' ha hb
  have hSA := fun (z : Option Addr) (cz : Nat) w' ha hb => sameInts_len z am cz cm L.length Lz HLZ.out hLm w' ha hb
  have hSH := fun w' ha hb => sameInts_len (some ⟨w.heap.size, 0, none⟩) (some ⟨w1.heap.size, 0, none⟩) (ev.length + 2) (ev.length + 2) (ev.length + 2) ev2 HL2.out.symm hE2 w' ha hb
  have hB4 := hb3.trans (hb4.mono hb3.size)
  go_upto_region 7 with (first | (go_at_call 30; refine (hSL _ j3 j4).mono ?_; rintro e w5 ⟨rfl, hb5⟩))
  have hB5 := hB4.trans (hb5.mono hB4.size)
  go_upto_region 8 with (first | (go_at_call 30; refine (hSH _ (i1.below hB5) (i2.below hB5)).mono ?_; rintro e w6 ⟨rfl, hb6⟩))
  have hB6 := hB5.trans (hb6.mono hB5.size)
  have hB46 := hb5.trans (hb6.mono hb5.size)
  have j3' := j3.below hB46
  have j4' := j4.below hB46
  have o3' := (ho3.kept (grownBy_of_below hb4) (by cases hz : (Value.slice al L.length cl).ownBlock <;> simp)).kept (grownBy_of_below hB46) (by cases hz : (Value.slice al L.length cl).ownBlock <;> simp)
  have hsz3 : w2.heap.size ≤ w3.heap.size := hb3.size
  have hsz4 : w3.heap.size ≤ w4.heap.size := hb4.size
  have hsz6 : w4.heap.size ≤ w6.heap.size := hB46.size
  have hCl := hP w6 _ (ev.length + 2) _ rfl (iT.below hB6)
  have hBw6 := hB2.trans (hB6.mono hB2.size)
  clear hP hQ ho3 ho4 hb1 hb2 hb3 hb4 hb5 hb6 hB4 hB5 j3 j4 iA
  have key : (x != 0) = false ∨ ((x != 0) = true ∧ al = none) := by
    by_cases hx : x = 0
    · exact .inl (by simp [hx])
    · exact .inr ⟨by simpa using hx, hx3 hx⟩
  clear hx3 hx4
  go_cut [66] (fun v wc => v = .bool false ∧ wc = w6)
  case first =>
    rcases key with hx0 | ⟨hx1, hal⟩
    · go_wp2
      go_meet
      case rel => exact ⟨rfl, rfl⟩
    · subst hal
      go_wp2
      go_meet
      case rel => exact ⟨rfl, rfl⟩
  case rest =>
    obtain ⟨rfl, hwc⟩ := hcut
    have hwd := hwc.symm
    clear hwc
    subst hwd
    go_upto_region 11 with (first | (go_at_call 28; refine hCl.mono ?_; rintro e w7 ⟨aa, cc, rfl, hb7, ho7, hx7⟩))
    have o7 := o3'.kept (grownBy_of_below hb7) (by cases hz : (Value.slice al L.length cl).ownBlock <;> simp)
    have hform : (al = none ∧ cl = 0) ∨ ∃ g cur, al = some ⟨g, 0, none⟩ ∧ w7.heap[g]? = some (.cells cur 3 (0, 0)) ∧ cur.size = cl ∧ w2.heap.size ≤ g ∧ g < w3.heap.size ∧ cl ≤ maxLen := by
      rcases o7.2 with ⟨h1, _⟩ | ⟨g, cap, cur, h1, _, h3, _, h5, h6, _⟩
      · simp only [Value.slice.injEq] at h1
        exact .inl ⟨h1.1, h1.2.2⟩
      · simp only [Value.slice.injEq] at h1
        obtain ⟨rfl, _, rfl⟩ := h1
        obtain ⟨h7, h8⟩ := bl _ rfl
        exact .inr ⟨g, cur, rfl, h3, by omega, h7, h8, h5⟩
    have hlL : L.length ≤ cl := by
      rcases o7.2 with ⟨h1, h2⟩ | ⟨g, cap, cur, h1, _, _, h4, _⟩
      · omega
      · simp only [Value.slice.injEq] at h1
        omega
    have j7 := hIV _ _ _ _ ho7
    have b7 := own_block ho7
    have hsz7 : w6.heap.size ≤ w7.heap.size := hb7.size
    have j4'' := j4'.below hb7
    have i1' := (i1.below hB6).below hb7
    have i2' := (i2.below hB6).below hb7
    have hBw7 := hBw6.trans (hb7.mono hBw6.size)
    clear o3' o7 ho7 hIV hCl hx7 key j3' j4' i1 i2 iT
    go_cut [18] (fun v wc => v = .slice al cl cl ∧ wc = w7)
    case first =>
      rcases hform with ⟨h1, h2⟩ | ⟨g, cur, h1, _, _, _, _, hm⟩
      · subst h1 h2
        go_wp2
        go_meet
        case rel => exact ⟨rfl, rfl⟩
      · subst h1
        unfold maxLen at hm
        have c0 : (0 : Int) ≤ (cl : Int) := by omega
        go_wp2
        go_meet
        case rel => exact ⟨rfl, rfl⟩
    case rest =>
      obtain ⟨rfl, hwc⟩ := hcut
      have hwd := hwc.symm
      clear hwc
      subst hwd
      obtain ⟨bk, hbk, hbn⟩ : ∃ bk : Option Nat, (∀ p, al = some p → bk = some p.block) ∧ (∀ k, bk = some k → w2.heap.size ≤ k ∧ k < w3.heap.size) := by
        rcases hform with ⟨h1, _⟩ | ⟨g, cur, h1, _, _, h7, h8, _⟩
        · exact ⟨none, (fun p hp => by rw [h1] at hp; cases hp), (fun k hk => by cases hk)⟩
        · exact ⟨some g, (fun p hp => by rw [h1] at hp; cases hp; rfl), (fun k hk => by cases hk; exact ⟨h7, h8⟩)⟩
      go_wp2
      go_loopw [19] (fun i wr => ∃ k : Nat, k ≤ cl ∧ i = .int .i64 (k : Int) ∧ w7.grownBy wr bk ∧ (∀ g cur, al = some ⟨g, 0, none⟩ → w7.heap[g]? = some (.cells cur 3 (0, 0)) → ∃ cur', wr.heap[g]? = some (.cells cur' 3 (0, 0)) ∧ cur'.size = cur.size)) (fun i _ => cl - (intOf i).toNat)
      case atStart => exact ⟨0, Nat.zero_le _, rfl, grownBy_refl _ _, fun g cur _ h => ⟨cur, h, rfl⟩⟩
      case round =>
        obtain ⟨k, hk, rfl, hgr, hrow⟩ := hrel
        by_cases hkc : k < cl
        · rcases hform with ⟨_, h2⟩ | ⟨g, cur, h1, h3, h4, h7, h8, hm⟩
          · omega
          · have hbg := hbk _ h1
            simp only at hbg
            obtain ⟨cur', hc1, hc2⟩ := hrow g cur h1 h3
            subst h1 hbg
            have ck : wr.cell? ⟨g, k, none⟩ = some (cur'[k]'(by omega)) := cellB hc1 (by simp)
            have zk := frozen_of_row _ _ k _ _ hc1
            unfold maxLen at hm
            have k0 : (0 : Int) ≤ (k : Int) := by omega
            have kc : (k : Int) < (cl : Int) := by omega
            go_wp2
            go_roundw
            case rel =>
              refine ⟨k + 1, by omega, rfl, grownBy_setCell hgr k _, fun g2 cur2 e2 hh => ?_⟩
              simp only [Option.some.injEq, Addr.mk.injEq, and_true] at e2
              subst e2
              rw [h3] at hh
              cases hh
              exact ⟨_, heap_setCell_same _ _ k _ _ _ hc1, by simpa using hc2⟩
            case measure => (simp [intOf] <;> omega)
        · have kc : ¬ (k : Int) < (cl : Int) := by omega
          have nb : ∀ m, (m < w2.heap.size ∨ w3.heap.size ≤ m) → some m ≠ bk := fun m hm e => by have := hbn m e.symm; omega
          have i1r := i1'.grown hgr (fun p hp => by cases hp; exact nb _ (.inl (by simp; omega)))
          have i2r := i2'.grown hgr (fun p hp => by cases hp; exact nb _ (.inl (by simp; omega)))
          have jar := j7.grown hgr (fun p hp => nb _ (.inr (by have := (b7 p hp).1; omega)))
          have jmr := j4''.grown hgr (fun p hp => nb _ (.inr (bm p hp).1))
          have hBr : Below w.heap.size w wr := below_grown hBw7 hBw7.size hgr (fun m hm => by have := (hbn m hm).1; omega)
          clear hform hbk hrow i1' i2' j7 j4''
          go_upto_region 17 with (first | (go_at_call 30; refine (hSH _ i1r i2r).mono ?_; rintro e w8 ⟨rfl, hb8⟩))
          go_wp2_with (first | (go_at_call 30; refine (hSA _ _ _ (jar.below hb8) (jmr.below hb8)).mono ?_; rintro e w9 ⟨rfl, hb9⟩))
          go_ret
          have hB8 := hBr.trans (hb8.mono hBr.size)
          exact ⟨rfl, hB8.trans (hb9.mono hB8.size)⟩
end Go.Proofs.Ytfdbnilopfnifaa
namespace Go.Proofs.Ytfdbnilopfnifaa
open Go.ChangeShapes Go.WideShapes Go.ChangeAt Go.RowKit
open Go.ChangeMaps (open_string shut_string)

set_option maxHeartbeats 1000000 in
theorem Checks_walk (s : ByteArray) (w : World) :
    Calls Try.prog 3 #[.string s] w fun e w' => e = .returned (.bool true) ∧ Below w.heap.size w w' := by
  have h1 := fun w => Check_any s w
  have h2 := fun w => refCheck_any s w
  rw [read_eq s] at h1
  generalize (ckP s).1 = a at h1 h2
  generalize (ckP s).2 = b at h1 h2
  go_enter Try.func3, Try.ntmps3
  go_wp2_with (first
    | (go_at_call 14; refine (h1 _).mono ?_; rintro e w1 ⟨rfl, hb1⟩)
    | (go_at_call 15; refine (h2 _).mono ?_; rintro e w2 ⟨rfl, hb2⟩))
  go_ret
  exact ⟨rfl, hb1.trans (hb2.mono hb1.size)⟩

theorem Try.own : ownKnob Try.prog.godebug = none := by kernel_rfl

set_option maxRecDepth 100000 in
theorem Checks_lifted (os : Os) (started : os.Started) (H : Type) (enc : TypeId × Value → H) :
    ReturnsInHanded {} Try.checked os 3 .any (Rows.checksSpec.pre6 enc Try.prog Try.f3 Rows.checksRow.domain false) (Rows.checksSpec.post enc Try.prog Try.f3 false true false false) := by
  refine returnsInHanded_of_change (C := Try.checked) Try.own started (by kernel_rfl) Try.func3
    (ChangeSpec.witness6 (enc := enc) (C := Try.checked) false ⟨#[], #[.string ByteArray.empty], []⟩ 8 (by kernel_rfl) (by kernel_rfl) (by kernel_rfl) (by kernel_rfl)) ?_
  intro W base args ds gs before hval0 hW _ _
  have hval : ∀ (j : Nat) t v, Try.f3.params[j]? = some t → args[j]? = some v → Value.okWide Try.prog W .any base t v := hval0
  have hW' := hW
  obtain ⟨p, q, hA0, hV, rfl, hfz, hnd⟩ := hW
  have hA : DataW.TrodAll enc Try.prog W 0 (fun _ => true) true Try.f3.params.toList args.toList ds p := hA0
  rw [Try.params3] at hA hval
  obtain ⟨v0, vs0, d0, ds0, p0, q0, hargs, rfl, rfl, h0, r0⟩ := trodAll_cons hA
  obtain ⟨rfl, rfl, rfl⟩ := trodAll_nil r0
  obtain rfl : args = #[v0] := by cases args; simp_all
  obtain ⟨rfl, rfl⟩ := trodVars_none hV
  obtain ⟨a0, rfl, rfl, rfl, w0⟩ := open_string Try.underlying9 (hval 0 9 v0 rfl rfl) h0
  clear hA0 hval0
  refine (Checks_walk a0 W).mono fun e W' ⟨he, bel⟩ => ?_
  subst he
  exact ⟨_, rfl, _, _, _, [], _, [], hW', trodAll_mk1 (shut_bool Try.underlying4 _), (trodAll_cons_mk (shut_string Try.underlying9 w0) trodAll_mk0), rfl, bel.frame _, fun h => by cases h⟩

theorem checks_holds : Rows.ChecksSaid :=
  OpenClaim.holds_of_wide 3 Try.f3 rfl rfl rfl rfl rfl rfl rfl ⟨rfl, rfl, rfl, rfl, rfl⟩ rfl rfl rfl rfl rfl (by kernel_rfl) Try.func3 (by kernel_rfl)
    (of_decide_eq_true (by kernel_rfl)) (by unfold Func.isWrapper; first | (rw [if_pos (by decide +kernel)]; kernel_rfl) | (rw [if_neg (by decide +kernel)]; exact ⟨rfl, rfl⟩))
    (fun os started H enc _ => Checks_lifted os started H enc)
#print axioms checks_holds
end Go.Proofs.Ytfdbnilopfnifaa
namespace Go.Proofs.Ytfdbnilopfnifaa
open Go.ChangeShapes Go.WideShapes Go.ChangeAt Go.RowKit
open Go.ChangeMaps (open_string shut_string)

theorem AksAt.grown {X w : World} {r : Option Nat} {a : Option Addr} {l : List Ak} (h : AksAt X a l) (hg : X.grownBy w r) (hne : ∀ p, a = some p → some p.block ≠ r) : AksAt w a l := fun k x hx => by
  obtain ⟨g, rfl, c0, c1, c2, c3, c4⟩ := h k x hx
  have hb := hg.block g (World.block_lt_of_cell? X _ c0) (hne _ rfl)
  refine ⟨g, rfl, ?_, ?_, ?_, ?_, ?_⟩
  · rw [World.cell?_of_block (w := X) (a := ⟨g, k * 5, none⟩) hb]; exact c0
  · rw [World.cell?_of_block (w := X) (a := ⟨g, k * 5 + 1, none⟩) hb]; exact c1
  · rw [World.cell?_of_block (w := X) (a := ⟨g, k * 5 + 2, none⟩) hb]; exact c2
  · rw [World.cell?_of_block (w := X) (a := ⟨g, k * 5 + 3, none⟩) hb]; exact c3
  · rw [World.cell?_of_block (w := X) (a := ⟨g, k * 5 + 4, none⟩) hb]; exact c4

set_option maxRecDepth 100000 in
set_option maxHeartbeats 8000000 in
theorem Asked_walk (s sch : ByteArray) (hsch : sch.size ≤ maxLen) (w : World) :
    Calls Try.prog 6 #[.string s, .string sch] w fun e w' => e = .returned (.bool true) ∧ Below w.heap.size w w' := by
  obtain ⟨L, x, hL, hP, hQ⟩ := asks_both s sch hsch
  go_enter Try.func6, Try.ntmps6
  go_upto_region 2 with (first | (go_at_call 22; refine (hP _).mono ?_; rintro e w1 ⟨al, cl, rfl, hb1, ho1, hx1⟩))
  go_upto_region 3 with (first | (go_at_call 23; refine (hQ _).mono ?_; rintro e w2 ⟨am, cm, rfl, hb2, ho2, hx2⟩))
  have j1 := (aksAt_row rfl ho1).below hb2
  have j2 := aksAt_row rfl ho2
  have bl : ∀ p, al = some p → w.heap.size ≤ p.block ∧ p.block < w1.heap.size := fun p hp => by subst hp; exact ho1.lt p.block rfl
  have bm : ∀ p, am = some p → w1.heap.size ≤ p.block ∧ p.block < w2.heap.size := fun p hp => by subst hp; exact ho2.lt p.block rfl
  have hS := fun (z : Option Addr) (cz : Nat) w' ha hb => sameAsks_true z am cz cm L (by omega) w' ha hb
  have hSL := fun w' ha hb => sameAsks_true al am cl cm L (by omega) w' ha hb
  go_upto_region 4 with (first | (go_at_call 24; refine (hSL _ j1 j2).mono ?_; rintro e w3 ⟨rfl, hb3⟩))
  have hB1 := hb1
  have hB2 := hB1.trans (hb2.mono hB1.size)
  have hB3 := hB2.trans (hb3.mono hB2.size)
  have o3 := ownsRow_below (ownsRow_below ho1 hb2) hb3
  have j2' := j2.below hb3
  have hs1 := hb1.size
  have hs2 := hb2.size
  have hs3 := hb3.size
  have key : (x != 0) = false ∨ ((x != 0) = true ∧ al = none) := by
    by_cases hx : x = 0
    · exact .inl (by simp [hx])
    · exact .inr ⟨by simpa using hx, hx1 hx⟩
  have hCl := hP w3
  clear hP hQ ho1 ho2 hx1 hx2 j1 j2 hb1 hb2 hb3
  go_cut [43] (fun v wc => v = .bool false ∧ wc = w3)
  case first =>
    rcases key with hx0 | ⟨hx1, hal⟩
    · go_wp2
      go_meet
      case rel => exact ⟨rfl, rfl⟩
    · subst hal
      go_wp2
      go_meet
      case rel => exact ⟨rfl, rfl⟩
  case rest =>
    obtain ⟨rfl, hwc⟩ := hcut
    have hwd := hwc.symm
    clear hwc
    subst hwd
    go_upto_region 7 with (first | (go_at_call 22; refine hCl.mono ?_; rintro e w7 ⟨aa, cc, rfl, hb7, ho7, hx7⟩))
    have o7 := ownsRow_below o3 hb7
    have hform : (al = none ∧ cl = 0) ∨ ∃ g cur, al = some ⟨g, 0, none⟩ ∧ w7.heap[g]? = some (.cells cur 42 (0, 0)) ∧ cur.size = cl * 5 ∧ w.heap.size ≤ g ∧ g < w1.heap.size ∧ cl ≤ maxLen := by
      rcases o7.2 with ⟨h1, _⟩ | ⟨g, cap, cur, h1, _, h3, _, h5, h6, _⟩
      · simp only [Value.slice.injEq] at h1
        exact .inl ⟨h1.1, h1.2.2⟩
      · simp only [Value.slice.injEq] at h1
        obtain ⟨rfl, _, rfl⟩ := h1
        obtain ⟨h7, h8⟩ := bl _ rfl
        exact .inr ⟨g, cur, rfl, h3, h6, h7, h8, h5⟩
    have hlL : L.length ≤ cl := by
      rcases o7.2 with ⟨h1, h2⟩ | ⟨g, cap, cur, h1, _, _, h4, _⟩
      · omega
      · simp only [Value.slice.injEq] at h1
        omega
    have j7 := aksAt_row rfl ho7
    have b7 : ∀ p, aa = some p → w3.heap.size ≤ p.block ∧ p.block < w7.heap.size := fun p hp => by subst hp; exact ho7.lt p.block rfl
    have j4 := j2'.below hb7
    have hB7 := hB3.trans (hb7.mono hB3.size)
    clear o3 o7 ho7 hCl hx7 key j2'
    go_cut [12] (fun v wc => v = .slice al cl cl ∧ wc = w7)
    case first =>
      rcases hform with ⟨h1, h2⟩ | ⟨g, cur, h1, _, _, _, _, hm⟩
      · subst h1 h2
        go_wp2
        go_meet
        case rel => exact ⟨rfl, rfl⟩
      · subst h1
        unfold maxLen at hm
        have c0 : (0 : Int) ≤ (cl : Int) := by omega
        go_wp2
        go_meet
        case rel => exact ⟨rfl, rfl⟩
    case rest =>
      obtain ⟨rfl, hwc⟩ := hcut
      have hwd := hwc.symm
      clear hwc
      subst hwd
      obtain ⟨bk, hbk, hbn⟩ : ∃ bk : Option Nat, (∀ p, al = some p → bk = some p.block) ∧ (∀ k, bk = some k → w.heap.size ≤ k ∧ k < w1.heap.size) := by
        rcases hform with ⟨h1, _⟩ | ⟨g, cur, h1, _, _, h7, h8, _⟩
        · exact ⟨none, (fun p hp => by rw [h1] at hp; cases hp), (fun k hk => by cases hk)⟩
        · exact ⟨some g, (fun p hp => by rw [h1] at hp; cases hp; rfl), (fun k hk => by cases hk; exact ⟨h7, h8⟩)⟩
      go_wp2
      go_loopw [13] (fun i wr => ∃ k : Nat, k ≤ cl ∧ i = .int .i64 (k : Int) ∧ w7.grownBy wr bk ∧ (∀ g cur, al = some ⟨g, 0, none⟩ → w7.heap[g]? = some (.cells cur 42 (0, 0)) → ∃ cur', wr.heap[g]? = some (.cells cur' 42 (0, 0)) ∧ cur'.size = cur.size)) (fun i _ => cl - (intOf i).toNat)
      case atStart => exact ⟨0, Nat.zero_le _, rfl, grownBy_refl _ _, fun g cur _ h => ⟨cur, h, rfl⟩⟩
      case round =>
        obtain ⟨k, hk, rfl, hgr, hrow⟩ := hrel
        by_cases hkc : k < cl
        · rcases hform with ⟨_, h2⟩ | ⟨g, cur, h1, h3, h4, h7, h8, hm⟩
          · omega
          · have hbg := hbk _ h1
            simp only at hbg
            obtain ⟨cur', hc1, hc2⟩ := hrow g cur h1 h3
            subst h1 hbg
            have ck : ∀ i, i < 5 → wr.cell? ⟨g, k * 5 + i, none⟩ = some (cur'.getD (k * 5 + i) undef) := fun i hi => by
              have hlt : k * 5 + i < cur'.size := by omega
              exact cellB hc1 (by simp [hlt])
            have ck0 := ck 0 (by omega)
            have ck1 := ck 1 (by omega)
            have ck2 := ck 2 (by omega)
            have ck3 := ck 3 (by omega)
            have ck4 := ck 4 (by omega)
            rw [Nat.add_zero] at ck0
            have zk := fun i => frozen_of_row _ _ i _ _ hc1
            unfold maxLen at hm
            have k0 : (0 : Int) ≤ (k : Int) := by omega
            have kc : (k : Int) < (cl : Int) := by omega
            clear ck
            go_wp2
            go_roundw
            case rel =>
              refine ⟨k + 1, by omega, rfl, grownBy_setCell (grownBy_setCell (grownBy_setCell (grownBy_setCell (grownBy_setCell hgr _ _) _ _) _ _) _ _) _ _, fun g2 cur2 e2 hh => ?_⟩
              simp only [Option.some.injEq, Addr.mk.injEq, and_true] at e2
              subst e2
              rw [h3] at hh
              cases hh
              exact ⟨_, heap_setCell_same _ _ (k * 5 + 4) _ _ _ (heap_setCell_same _ _ (k * 5 + 3) _ _ _ (heap_setCell_same _ _ (k * 5 + 2) _ _ _ (heap_setCell_same _ _ (k * 5 + 1) _ _ _ (heap_setCell_same _ _ (k * 5) _ _ _ hc1)))), by simpa using hc2⟩
            case measure => (simp [intOf] <;> omega)
        · have kc : ¬ (k : Int) < (cl : Int) := by omega
          have nb : ∀ m, w1.heap.size ≤ m → some m ≠ bk := fun m hm e => by have := hbn m e.symm; omega
          have jar := j7.grown hgr (fun p hp => nb _ (by have := (b7 p hp).1; omega))
          have jmr := j4.grown hgr (fun p hp => nb _ (bm p hp).1)
          have hBr : Below w.heap.size w wr := below_grown hB7 hB7.size hgr (fun m hm => (hbn m hm).1)
          clear hform hbk hrow j7 j4
          go_wp2_with (first | (go_at_call 24; refine (hS _ _ _ jar jmr).mono ?_; rintro e w9 ⟨rfl, hb9⟩))
          go_ret
          exact ⟨rfl, hBr.trans (hb9.mono hBr.size)⟩

set_option maxRecDepth 100000 in
theorem Asked_lifted (os : Os) (started : os.Started) (H : Type) (enc : TypeId × Value → H) :
    ReturnsInHanded {} Try.checked os 6 .any (Rows.askedSpec.pre6 enc Try.prog Try.f6 Rows.askedRow.domain false) (Rows.askedSpec.post enc Try.prog Try.f6 false true false false) := by
  refine returnsInHanded_of_change (C := Try.checked) Try.own started (by kernel_rfl) Try.func6
    (ChangeSpec.witness6 (enc := enc) (C := Try.checked) false ⟨#[], #[.string ByteArray.empty, .string ByteArray.empty], []⟩ 8 (by kernel_rfl) (by kernel_rfl) (by kernel_rfl) (by kernel_rfl)) ?_
  intro W base args ds gs before hval0 hW _ _
  have hval : ∀ (j : Nat) t v, Try.f6.params[j]? = some t → args[j]? = some v → Value.okWide Try.prog W .any base t v := hval0
  have hW' := hW
  obtain ⟨p, q, hA0, hV, rfl, hfz, hnd⟩ := hW
  have hA : DataW.TrodAll enc Try.prog W 0 (fun _ => true) true Try.f6.params.toList args.toList ds p := hA0
  rw [Try.params6] at hA hval
  obtain ⟨v0, vs0, d0, ds0, p0, q0, hargs, rfl, rfl, h0, r0⟩ := trodAll_cons hA
  obtain ⟨v1, vs1, d1, ds1, p1, q1, hvs0, rfl, rfl, h1, r1⟩ := trodAll_cons r0
  obtain ⟨rfl, rfl, rfl⟩ := trodAll_nil r1
  subst hvs0
  obtain rfl : args = #[v0, v1] := by cases args; simp_all
  obtain ⟨rfl, rfl⟩ := trodVars_none hV
  obtain ⟨a0, rfl, rfl, rfl, w0⟩ := open_string Try.underlying9 (hval 0 9 v0 rfl rfl) h0
  obtain ⟨a1, rfl, rfl, rfl, w1⟩ := open_string Try.underlying9 (hval 1 9 v1 rfl rfl) h1
  clear hA0 hval0
  refine (Asked_walk a0 a1 w1 W).mono fun e W' ⟨he, bel⟩ => ?_
  subst he
  exact ⟨_, rfl, _, _, _, [], _, [], hW', trodAll_mk1 (shut_bool Try.underlying4 _), (trodAll_cons_mk (shut_string Try.underlying9 w0) (trodAll_cons_mk (shut_string Try.underlying9 w1) trodAll_mk0)), rfl, bel.frame _, fun h => by cases h⟩

theorem asked_holds : Rows.AskedSaid :=
  OpenClaim.holds_of_wide 6 Try.f6 rfl rfl rfl rfl rfl rfl rfl ⟨rfl, rfl, rfl, rfl, rfl⟩ rfl rfl rfl rfl rfl (by kernel_rfl) Try.func6 (by kernel_rfl)
    (of_decide_eq_true (by kernel_rfl)) (by unfold Func.isWrapper; first | (rw [if_pos (by decide +kernel)]; kernel_rfl) | (rw [if_neg (by decide +kernel)]; exact ⟨rfl, rfl⟩))
    (fun os started H enc _ => Asked_lifted os started H enc)
#print axioms asked_holds
end Go.Proofs.Ytfdbnilopfnifaa
