import Derived.Test.YtdfndcbakcmgiabDoorY12
namespace Go.Proofs.YtdfndcbakcmgiabDoor
open Go.RowKit

set_option maxRecDepth 100000 in
set_option maxHeartbeats 4000000 in
theorem Told_walk (nI mI : Int) (hn0 : -9223372036854775808 ≤ nI) (hn1 : nI ≤ 9223372036854775807) (hm0 : -9223372036854775808 ≤ mI) (hm1 : mI ≤ 9223372036854775807) (a : Option Addr) (c : Nat) (raw : List Int) (len : Nat) (hlen : len = raw.length) (hi : ∀ x ∈ raw, -9223372036854775808 ≤ x ∧ x ≤ 9223372036854775807) (picks : ByteArray) (w : World) (hA : IntsAt w a raw) :
    Calls Tryd.prog 3 #[.int .i64 nI, .int .i64 mI, .slice a len c, .string picks] w fun e w' => e = .returned (.bool true) ∧ Below w.heap.size w w' := by
  have hP1 : ∀ w, Calls Tryd.prog 6 #[.int .i64 nI, .int .i64 3] w fun e w' => (∃ r : Nat, r < 3 ∧ e = .returned (.int .i64 (r : Int))) ∧ w' = w := fun w => pickN_any nI hn0 hn1 3 (by decide) (by decide) w
  have hP2 : ∀ w, Calls Tryd.prog 6 #[.int .i64 mI, .int .i64 3] w fun e w' => (∃ M : Int, (M = 0 ∨ M = 1 ∨ M = 2) ∧ e = .returned (.int .i64 M)) ∧ w' = w := fun w => (pickN_any mI hm0 hm1 3 (by decide) (by decide) w).mono (by
    rintro e w1 ⟨⟨r, hr, rfl⟩, hw⟩
    exact ⟨⟨r, by omega, rfl⟩, hw⟩)
  have HA := show Hid _ from hA
  have HLen : Hid (len = raw.length) := hlen
  have HI := show Hid _ from hi
  clear hn0 hn1 hm0 hm1 hA hlen hi
  go_enter Tryd.func3, Tryd.ntmps3
  go_upto_region 2 with (first | (go_at_call 6; refine (hP1 _).mono ?_; rintro e w0 ⟨⟨r, hr, rfl⟩, hw⟩; have hw2 := hw.symm; clear hw; subst hw2))
  obtain ⟨n, hn⟩ : ∃ n : Nat, r + 2 = n := ⟨_, rfl⟩
  have hnI : (2 : Int) + (r : Int) = (n : Int) := by omega
  rw [hnI]
  have n2 : 2 ≤ n := by omega
  have n4 : n ≤ 4 := by omega
  clear hnI hP1
  go_upto_region 3 with (first | (go_at_call 6; refine (hP2 _).mono ?_; rintro e w0 ⟨⟨M, hM, rfl⟩, hw⟩; have hw2 := hw.symm; clear hw; subst hw2))
  clear hP2
  have hn' := show Hid _ from hn
  clear hn
  rcases hM with rfl | rfl | rfl
  · have hW := fun w hA => wheel_0 n n2 n4 (n : Int) rfl a c raw len HLen.out HI.out w hA
    go_upto_region 4 with (first | (go_at_call 7; refine (hW _ HA.out).mono ?_; rintro e w1 ⟨⟨P, q, C, rfl⟩, hb1⟩))
    obtain ⟨ms, h, la, ix, sc, D⟩ := tld_of C picks
    generalize bt (txL P) = s at *
    have hRun := D.run
    have hAs := D.ask
    have hPr := D.pre
    have hsc := D.sc60
    have hla := D.la100
    have HT : Hid (∀ i, i < n → ix (i + 1) < la.length ∧ (aqOf la (ix (i + 1))).th = i + 1) := D.ths
    have hwl := whC_len n ix
    have hh : 1 ≤ h ∧ h ≤ 2 := by rcases D.how with h1 | ⟨h1, _⟩ <;> omega
    have hh1 : ¬ h < 1 := by omega
    have hh2 : ¬ 2 < h := by omega
    obtain ⟨l, f, hSe, hF⟩ := D.seaY rfl
    have hvd : vdOf 0 = 4 := rfl
    rw [hvd] at hPr
    clear hvd
    have hsd := digS_size sc
    have HWL : Hid ((whC n ix).length = n) := hwl
    have HWA : Hid (∀ i, i < n → (intN (whC n ix))[i]? = some ((ix (i + 1) : Nat) : Int)) := fun i hi => by
      rw [intN, List.getElem?_map, whC, List.getElem?_map, List.getElem?_range hi]; rfl
    clear D C hW hwl
    go_upto_region 7 with (first | (go_at_call 8; refine (hRun _).mono ?_; rintro e w2 ⟨rfl, hb2⟩))
    have hB2 := hb1.trans (hb2.mono hb1.size)
    go_upto_region 8 with (first | (go_at_call 9; refine (hAs _).mono ?_; rintro e w3 ⟨ga, ca, rfl, hb3, ha3⟩))
    go_upto_region 9 with (first | (go_at_call 10; refine (hPr _).mono ?_; rintro e w4 ⟨gv, cv, rfl, hb4, hr4⟩))
    obtain ⟨G, b, cb, eG, c0, c1, c2, cI, _⟩ := hr4 0 _ rfl
    simp only [Option.some.injEq, Addr.mk.injEq, and_true] at eG
    subst eG
    have ha4 := ha3.below hb4
    have hB3 := hB2.trans (hb3.mono hB2.size)
    have hB4 := hB3.trans (hb4.mono hB3.size)
    simp only [Nat.zero_mul, Nat.zero_add] at c0 c1 c2
    rw [HWL.out] at c0
    obtain ⟨gb, ob, eb, _⟩ := cI 0 _ (HWA.out 0 (by omega))
    subst eb
    have hnn : ((n : Int) != (n : Int)) = false := by simp
    clear hRun hAs hPr ha3 hb1 hb2 hb3 hb4 hr4
    go_wp2
    go_loopw [19] (fun y wr => ∃ i : Nat, i ≤ n ∧ y = .int .i64 (i : Int) ∧ Below w4.heap.size w4 wr) (fun y _ => n - (intOf y).toNat)
    case atStart => exact ⟨0, Nat.zero_le _, rfl, Below.refl _ _⟩
    case round =>
      obtain ⟨i, hin, rfl, hBr⟩ := hrel
      have d0 := cell_later hBr c0
      have d1 := cell_later hBr c1
      have d2 := cell_later hBr c2
      have hBw := hB4.trans (hBr.mono hB4.size)
      by_cases hil : i < n
      · obtain ⟨hk, hth⟩ := HT.out i hil
        obtain ⟨g2, o2, e2, c5⟩ := (cI.below hBr) i _ (HWA.out i hil)
        simp only [Option.some.injEq, Addr.mk.injEq, and_true] at e2
        obtain ⟨rfl, rfl⟩ := e2
        obtain ⟨x, hx⟩ := get_some la (ix (i + 1)) hk
        rw [aqOf_get hx] at hth
        obtain ⟨g3, e3, c6, _⟩ := (ha4.below hBr) _ x hx
        simp only [Option.some.injEq, Addr.mk.injEq, and_true] at e3
        subst e3
        rw [hth] at c6
        rw [show ((i + 1 : Nat) : Int) = (i : Int) + 1 by omega] at c6
        clear hx hth
        generalize ix (i + 1) = kk at *
        have i0 : (0 : Int) ≤ (i : Int) := by omega
        have il : (i : Int) < (n : Int) := by omega
        have k0 : ¬ (kk : Int) < 0 := by omega
        have k0' : (0 : Int) ≤ (kk : Int) := by omega
        have kl : ¬ (la.length : Int) ≤ (kk : Int) := by omega
        have kl' : (kk : Int) < (la.length : Int) := by omega
        go_wp2
        go_roundw
        case rel => exact ⟨i + 1, by omega, by go_num, hBr⟩
        case measure => (simp [intOf] <;> omega)
      · have il : ¬ (i : Int) < (n : Int) := by omega
        rcases hF with ⟨rfl, hll, hRg⟩ | ⟨rfl, hn2⟩
        · have hsl := digS_size l
          have hlI : (l.length : Int) ≤ (sc.length : Int) := by omega
          have hB0 : Hid (Below w.heap.size w wr) := hBw
          go_upto_region 25 with (first | (go_at_call 11; refine (hSe _).mono ?_; rintro e w5 ⟨rfl, hb5⟩; have f0 := cell_later hb5 d0; have f1 := cell_later hb5 d1; have f2 := cell_later hb5 d2))
          go_upto_region 29 with (first | (go_at_call 12; refine (hRg _).mono ?_; rintro e w6 ⟨rfl, hb6⟩; have g2 := cell_later hb6 f2))
          go_wp2
          go_ret
          have hb56 := hb5.trans (hb6.mono hb5.size)
          exact ⟨rfl, hB0.out.trans (hb56.mono hB0.out.size)⟩
        · have hnI2 : (2 : Int) < (n : Int) := by omega
          go_wp2_with (first | (go_at_call 11; refine (hSe _).mono ?_; rintro e w5 ⟨rfl, hb5⟩; have f0 := cell_later hb5 d0; have f1 := cell_later hb5 d1; have f2 := cell_later hb5 d2))
          go_ret
          exact ⟨rfl, hBw.trans (hb5.mono hBw.size)⟩
  · have hW := fun w hA => wheel_1 n n2 n4 (n : Int) rfl a c raw len HLen.out HI.out w hA
    go_upto_region 4 with (first | (go_at_call 7; refine (hW _ HA.out).mono ?_; rintro e w1 ⟨⟨P, q, C, rfl⟩, hb1⟩))
    obtain ⟨ms, h, la, ix, sc, D⟩ := tld_of C picks
    generalize bt (txL P) = s at *
    have hRun := D.run
    have hAs := D.ask
    have hPr := D.pre
    have hsc := D.sc60
    have hla := D.la100
    have HT : Hid (∀ i, i < n → ix (i + 1) < la.length ∧ (aqOf la (ix (i + 1))).th = i + 1) := D.ths
    have hwl := whC_len n ix
    have hh : h = 1 := by rcases D.how with h1 | ⟨_, h1⟩ <;> first | exact h1 | cases h1
    subst hh
    obtain ⟨f, hF, hSe⟩ := D.seaN (by decide)
    have hvd : vdOf 1 = 1 := rfl
    rw [hvd] at hPr
    clear hvd
    have hsd := digS_size sc
    have HWL : Hid ((whC n ix).length = n) := hwl
    have HWA : Hid (∀ i, i < n → (intN (whC n ix))[i]? = some ((ix (i + 1) : Nat) : Int)) := fun i hi => by
      rw [intN, List.getElem?_map, whC, List.getElem?_map, List.getElem?_range hi]; rfl
    clear D C hW hwl
    go_upto_region 7 with (first | (go_at_call 8; refine (hRun _).mono ?_; rintro e w2 ⟨rfl, hb2⟩))
    have hB2 := hb1.trans (hb2.mono hb1.size)
    go_upto_region 8 with (first | (go_at_call 9; refine (hAs _).mono ?_; rintro e w3 ⟨ga, ca, rfl, hb3, ha3⟩))
    go_upto_region 9 with (first | (go_at_call 10; refine (hPr _).mono ?_; rintro e w4 ⟨gv, cv, rfl, hb4, hr4⟩))
    obtain ⟨G, b, cb, eG, c0, c1, c2, cI, _⟩ := hr4 0 _ rfl
    simp only [Option.some.injEq, Addr.mk.injEq, and_true] at eG
    subst eG
    have ha4 := ha3.below hb4
    have hB3 := hB2.trans (hb3.mono hB2.size)
    have hB4 := hB3.trans (hb4.mono hB3.size)
    simp only [Nat.zero_mul, Nat.zero_add] at c0 c1 c2
    rw [HWL.out] at c0
    obtain ⟨gb, ob, eb, _⟩ := cI 0 _ (HWA.out 0 (by omega))
    subst eb
    have hnn : ((n : Int) != (n : Int)) = false := by simp
    clear hRun hAs hPr ha3 hb1 hb2 hb3 hb4 hr4
    go_wp2
    go_loopw [19] (fun y wr => ∃ i : Nat, i ≤ n ∧ y = .int .i64 (i : Int) ∧ Below w4.heap.size w4 wr) (fun y _ => n - (intOf y).toNat)
    case atStart => exact ⟨0, Nat.zero_le _, rfl, Below.refl _ _⟩
    case round =>
      obtain ⟨i, hin, rfl, hBr⟩ := hrel
      have d0 := cell_later hBr c0
      have d1 := cell_later hBr c1
      have d2 := cell_later hBr c2
      have hBw := hB4.trans (hBr.mono hB4.size)
      by_cases hil : i < n
      · obtain ⟨hk, hth⟩ := HT.out i hil
        obtain ⟨g2, o2, e2, c5⟩ := (cI.below hBr) i _ (HWA.out i hil)
        simp only [Option.some.injEq, Addr.mk.injEq, and_true] at e2
        obtain ⟨rfl, rfl⟩ := e2
        obtain ⟨x, hx⟩ := get_some la (ix (i + 1)) hk
        rw [aqOf_get hx] at hth
        obtain ⟨g3, e3, c6, _⟩ := (ha4.below hBr) _ x hx
        simp only [Option.some.injEq, Addr.mk.injEq, and_true] at e3
        subst e3
        rw [hth] at c6
        rw [show ((i + 1 : Nat) : Int) = (i : Int) + 1 by omega] at c6
        clear hx hth
        generalize ix (i + 1) = kk at *
        have i0 : (0 : Int) ≤ (i : Int) := by omega
        have il : (i : Int) < (n : Int) := by omega
        have k0 : ¬ (kk : Int) < 0 := by omega
        have k0' : (0 : Int) ≤ (kk : Int) := by omega
        have kl : ¬ (la.length : Int) ≤ (kk : Int) := by omega
        have kl' : (kk : Int) < (la.length : Int) := by omega
        go_wp2
        go_roundw
        case rel => exact ⟨i + 1, by omega, by go_num, hBr⟩
        case measure => (simp [intOf] <;> omega)
      · have il : ¬ (i : Int) < (n : Int) := by omega
        rcases hF with rfl | rfl
        · go_wp2_with (first | (go_at_call 11; refine (hSe _).mono ?_; rintro e w5 ⟨rfl, hb5⟩; have f0 := cell_later hb5 d0; have f1 := cell_later hb5 d1; have f2 := cell_later hb5 d2))
          go_ret
          exact ⟨rfl, hBw.trans (hb5.mono hBw.size)⟩
        · go_wp2_with (first | (go_at_call 11; refine (hSe _).mono ?_; rintro e w5 ⟨rfl, hb5⟩; have f0 := cell_later hb5 d0; have f1 := cell_later hb5 d1; have f2 := cell_later hb5 d2))
          go_ret
          exact ⟨rfl, hBw.trans (hb5.mono hBw.size)⟩
  · have hW := fun w hA => wheel_2 n n2 n4 (n : Int) rfl a c raw len HLen.out HI.out w hA
    go_upto_region 4 with (first | (go_at_call 7; refine (hW _ HA.out).mono ?_; rintro e w1 ⟨⟨P, q, C, rfl⟩, hb1⟩))
    obtain ⟨ms, h, la, ix, sc, D⟩ := tld_of C picks
    generalize bt (txL P) = s at *
    have hRun := D.run
    have hAs := D.ask
    have hPr := D.pre
    have hsc := D.sc60
    have hla := D.la100
    have HT : Hid (∀ i, i < n → ix (i + 1) < la.length ∧ (aqOf la (ix (i + 1))).th = i + 1) := D.ths
    have hwl := whC_len n ix
    have hh : h = 1 := by rcases D.how with h1 | ⟨_, h1⟩ <;> first | exact h1 | cases h1
    subst hh
    obtain ⟨f, hF, hSe⟩ := D.seaN (by decide)
    have hvd : vdOf 2 = 2 := rfl
    rw [hvd] at hPr
    clear hvd
    have hsd := digS_size sc
    have HWL : Hid ((whC n ix).length = n) := hwl
    have HWA : Hid (∀ i, i < n → (intN (whC n ix))[i]? = some ((ix (i + 1) : Nat) : Int)) := fun i hi => by
      rw [intN, List.getElem?_map, whC, List.getElem?_map, List.getElem?_range hi]; rfl
    clear D C hW hwl
    go_upto_region 7 with (first | (go_at_call 8; refine (hRun _).mono ?_; rintro e w2 ⟨rfl, hb2⟩))
    have hB2 := hb1.trans (hb2.mono hb1.size)
    go_upto_region 8 with (first | (go_at_call 9; refine (hAs _).mono ?_; rintro e w3 ⟨ga, ca, rfl, hb3, ha3⟩))
    go_upto_region 9 with (first | (go_at_call 10; refine (hPr _).mono ?_; rintro e w4 ⟨gv, cv, rfl, hb4, hr4⟩))
    obtain ⟨G, b, cb, eG, c0, c1, c2, cI, _⟩ := hr4 0 _ rfl
    simp only [Option.some.injEq, Addr.mk.injEq, and_true] at eG
    subst eG
    have ha4 := ha3.below hb4
    have hB3 := hB2.trans (hb3.mono hB2.size)
    have hB4 := hB3.trans (hb4.mono hB3.size)
    simp only [Nat.zero_mul, Nat.zero_add] at c0 c1 c2
    rw [HWL.out] at c0
    obtain ⟨gb, ob, eb, _⟩ := cI 0 _ (HWA.out 0 (by omega))
    subst eb
    have hnn : ((n : Int) != (n : Int)) = false := by simp
    clear hRun hAs hPr ha3 hb1 hb2 hb3 hb4 hr4
    go_wp2
    go_loopw [19] (fun y wr => ∃ i : Nat, i ≤ n ∧ y = .int .i64 (i : Int) ∧ Below w4.heap.size w4 wr) (fun y _ => n - (intOf y).toNat)
    case atStart => exact ⟨0, Nat.zero_le _, rfl, Below.refl _ _⟩
    case round =>
      obtain ⟨i, hin, rfl, hBr⟩ := hrel
      have d0 := cell_later hBr c0
      have d1 := cell_later hBr c1
      have d2 := cell_later hBr c2
      have hBw := hB4.trans (hBr.mono hB4.size)
      by_cases hil : i < n
      · obtain ⟨hk, hth⟩ := HT.out i hil
        obtain ⟨g2, o2, e2, c5⟩ := (cI.below hBr) i _ (HWA.out i hil)
        simp only [Option.some.injEq, Addr.mk.injEq, and_true] at e2
        obtain ⟨rfl, rfl⟩ := e2
        obtain ⟨x, hx⟩ := get_some la (ix (i + 1)) hk
        rw [aqOf_get hx] at hth
        obtain ⟨g3, e3, c6, _⟩ := (ha4.below hBr) _ x hx
        simp only [Option.some.injEq, Addr.mk.injEq, and_true] at e3
        subst e3
        rw [hth] at c6
        rw [show ((i + 1 : Nat) : Int) = (i : Int) + 1 by omega] at c6
        clear hx hth
        generalize ix (i + 1) = kk at *
        have i0 : (0 : Int) ≤ (i : Int) := by omega
        have il : (i : Int) < (n : Int) := by omega
        have k0 : ¬ (kk : Int) < 0 := by omega
        have k0' : (0 : Int) ≤ (kk : Int) := by omega
        have kl : ¬ (la.length : Int) ≤ (kk : Int) := by omega
        have kl' : (kk : Int) < (la.length : Int) := by omega
        go_wp2
        go_roundw
        case rel => exact ⟨i + 1, by omega, by go_num, hBr⟩
        case measure => (simp [intOf] <;> omega)
      · have il : ¬ (i : Int) < (n : Int) := by omega
        rcases hF with rfl | rfl
        · go_wp2_with (first | (go_at_call 11; refine (hSe _).mono ?_; rintro e w5 ⟨rfl, hb5⟩; have f0 := cell_later hb5 d0; have f1 := cell_later hb5 d1; have f2 := cell_later hb5 d2))
          go_ret
          exact ⟨rfl, hBw.trans (hb5.mono hBw.size)⟩
        · go_wp2_with (first | (go_at_call 11; refine (hSe _).mono ?_; rintro e w5 ⟨rfl, hb5⟩; have f0 := cell_later hb5 d0; have f1 := cell_later hb5 d1; have f2 := cell_later hb5 d2))
          go_ret
          exact ⟨rfl, hBw.trans (hb5.mono hBw.size)⟩
end Go.Proofs.YtdfndcbakcmgiabDoor
