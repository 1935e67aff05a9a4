import Derived.Test.YtdfndcbakcmgiaaV1
import Derived.Test.YtdfndcbakcmgiaaU11
import Derived.Test.YtdfndcbakcmgiaaT18
namespace Go.Proofs.Ytdfndcbakcmgiaa
open Go.RowKit

/-! The reference's circle. -/
theorem share_one (k : Nat) (l : List Nat) : shareB [k] l = decide (k ∈ l) := by
  unfold shareB; rw [decide_eq_decide]; simp
def CondI (la : List Aq) (p : List Nat) (i : Nat) : Prop := hasB la (pAt p i) (pAt p ((i + 1) % p.length)) = true ∧ (aqOf la (pAt p 0)).th ≤ (aqOf la (pAt p i)).th ∧ ∀ j, j < i → apartB (aqOf la (pAt p j)) (aqOf la (pAt p i)) = true

set_option maxRecDepth 100000 in
set_option maxHeartbeats 2000000 in
theorem circle_any (a b : Option Addr) (ca cb : Nat) (la : List Aq) (hok : ∀ x ∈ la, x.Ok) (p : List Nat) (hp : p.length ≤ 100) (hin : ∀ i ∈ p, i < la.length) (w : World) (ha : AqsAt w a la) (hb : IntsAt w b (intN p)) (r : Bool) (hr : r = circB la p) :
    Calls Try.prog 67 #[.slice a la.length ca, .slice b p.length cb] w fun e w' => e = .returned (.bool r) ∧ Below w.heap.size w w' := by
  have HRF : Hid (∀ i, i < p.length → ¬ CondI la p i → r = false) := fun i hi hn => by
    cases hc : r with
    | false => rfl
    | true => rw [hr] at hc; exact absurd ((circB_iff.1 hc).2 i hi) hn
  have HRT : Hid ((∀ i, i < p.length → CondI la p i) → r = decide (1 < p.length)) := fun hh => by
    by_cases h1 : 1 < p.length
    · rw [hr, decide_eq_true h1]; exact circB_iff.2 ⟨h1, hh⟩
    · rw [decide_eq_false h1]
      cases hc : r with
      | false => rfl
      | true => rw [hr] at hc; exact absurd (circB_iff.1 hc).1 h1
  clear hr
  go_enter Try.func67, Try.ntmps67
  go_wp2
  go_loopw [6] (fun y wr => ∃ i : Nat, i ≤ p.length ∧ y = .int .i64 (i : Int) ∧ Hid (∀ j, j < i → CondI la p j) ∧ Below w.heap.size w wr) (fun y _ => p.length - (intOf y).toNat)
  case atStart => exact ⟨0, Nat.zero_le _, rfl, fun j hj => absurd hj (by omega), Below.refl _ _⟩
  case round =>
    obtain ⟨i, hi, rfl, HN, hBr⟩ := hrel
    by_cases hil : i < p.length
    · obtain ⟨z, hz⟩ := get_some p i hil
      obtain ⟨x, hx⟩ := get_some la z (hin z (List.mem_of_getElem? hz))
      have hzl := (List.getElem?_eq_some_iff.1 hx).1
      have hxo := hok x (List.mem_of_getElem? hx)
      have hml : (i + 1) % p.length < p.length := Nat.mod_lt _ (by omega)
      obtain ⟨z2, hz2⟩ := get_some p ((i + 1) % p.length) hml
      obtain ⟨y, hy⟩ := get_some la z2 (hin z2 (List.mem_of_getElem? hz2))
      have hz2l := (List.getElem?_eq_some_iff.1 hy).1
      have hyo := hok y (List.mem_of_getElem? hy)
      obtain ⟨z0, hz0⟩ := get_some p 0 (by omega)
      obtain ⟨x0, hx0⟩ := get_some la z0 (hin z0 (List.mem_of_getElem? hz0))
      have hz0l := (List.getElem?_eq_some_iff.1 hx0).1
      have haR := ha.below hBr
      have hbR := hb.below hBr
      obtain ⟨g, o, e1, s1⟩ := hbR i (z : Int) (by simp [intN, hz])
      subst e1
      obtain ⟨g1, o1, e1, s2⟩ := hbR ((i + 1) % p.length) (z2 : Int) (by simp [intN, hz2])
      cases e1
      obtain ⟨g1, o1, e1, s0⟩ := hbR 0 (z0 : Int) (by simp [intN, hz0])
      cases e1
      rw [Nat.add_zero] at s0
      obtain ⟨G, e2, c0, c1, c2, c3, c4⟩ := haR z x hx
      subst e2
      obtain ⟨G1, e2, d0, d1, d2, d3, d4⟩ := haR z2 y hy
      cases e2
      obtain ⟨G1, e2, t0, _, _, _, _⟩ := haR z0 x0 hx0
      cases e2
      have HC : Hid (CondI la p i ↔ decide (x.k ∈ y.hl) = true ∧ x0.th ≤ x.th ∧ ∀ j, j < i → apartB (aqOf la (pAt p j)) x = true) := by
        rw [Hid, CondI, hasB, share_one, pAt_get hz, pAt_get hz2, pAt_get hz0, aqOf_get hx, aqOf_get hy, aqOf_get hx0]
      have hAm := fun w => among_any x.k hxo.k y.hl (by have := hyo.len; omega) hyo.hl w
      have HFi := show Hid (¬ CondI la p i → r = false) from HRF.out i hil
      have HNi : Hid (CondI la p i → ∀ j, j < i + 1 → CondI la p j) := fun h j hj => by
        by_cases hji : j = i
        · rw [hji]; exact h
        · exact HN.out j (by omega)
      have i0 : (0 : Int) ≤ (i : Int) := by omega
      have il : (i : Int) < (p.length : Int) := by omega
      have z00 : (0 : Int) ≤ (z : Int) := by omega
      have zl : (z : Int) < (la.length : Int) := by omega
      have z20 : (0 : Int) ≤ (z2 : Int) := by omega
      have z2l : (z2 : Int) < (la.length : Int) := by omega
      have z000 : (0 : Int) ≤ (z0 : Int) := by omega
      have z0l : (z0 : Int) < (la.length : Int) := by omega
      have n0 : (0 : Int) < (p.length : Int) := by omega
      have hne : ((p.length : Int) == 0) = false := beq_false_of_ne (by omega)
      have hmo : ((i : Int) + 1).tmod (p.length : Int) = (((i + 1) % p.length : Nat) : Int) := by
        rw [show ((i : Int) + 1) = ((i + 1 : Nat) : Int) by omega, Int.ofNat_tmod]
      have HT0 : Hid (i = 0 → x0.th ≤ x.th) := fun h => by subst h; rw [hz] at hz0; cases hz0; rw [hx] at hx0; cases hx0; exact Nat.le_refl _
      generalize (i + 1) % p.length = mi at *
      have mi0 : (0 : Int) ≤ (mi : Int) := by omega
      have mil : (mi : Int) < (p.length : Int) := by omega
      generalize decide (x.k ∈ y.hl) = d at *
      generalize evI x.ev = vx at *
      generalize evI y.ev = vy at *
      clear hz hx hz2 hy hz0 hx0 HRF HRT HN
      have hY : Below wr.heap.size wr (wr.alloc (.cells #[.int .i64 x.th, .int .i64 x.pl, .string (letS 97 [x.k]), .string (letS 97 x.hl), .int .i64 vx] 42)) := (Below.refl _ _).alloc (Nat.le_refl _) _
      have hYn := heap_alloc_new wr (.cells #[.int .i64 x.th, .int .i64 x.pl, .string (letS 97 [x.k]), .string (letS 97 x.hl), .int .i64 vx] 42)
      have hYs : (wr.alloc (.cells #[.int .i64 x.th, .int .i64 x.pl, .string (letS 97 [x.k]), .string (letS 97 x.hl), .int .i64 vx] 42)).heap.size = wr.heap.size + 1 := by simp
      have s2Y := cell_later hY s2
      have d0Y := cell_later hY d0
      have d1Y := cell_later hY d1
      have d2Y := cell_later hY d2
      have d3Y := cell_later hY d3
      have d4Y := cell_later hY d4
      generalize hYe : wr.alloc (.cells #[.int .i64 x.th, .int .i64 x.pl, .string (letS 97 [x.k]), .string (letS 97 x.hl), .int .i64 vx] 42) = Y at *
      have HY := show Hid _ from hYe
      have hZ : Below Y.heap.size Y (Y.alloc (.cells #[.int .i64 y.th, .int .i64 y.pl, .string (letS 97 [y.k]), .string (letS 97 y.hl), .int .i64 vy] 42)) := (Below.refl _ _).alloc (Nat.le_refl _) _
      have hZn := heap_alloc_new Y (.cells #[.int .i64 y.th, .int .i64 y.pl, .string (letS 97 [y.k]), .string (letS 97 y.hl), .int .i64 vy] 42)
      have u0 : (Y.alloc (.cells #[.int .i64 y.th, .int .i64 y.pl, .string (letS 97 [y.k]), .string (letS 97 y.hl), .int .i64 vy] 42)).cell? ⟨wr.heap.size, 0, none⟩ = some (.int .i64 x.th) := cell_later hZ (cellB hYn rfl)
      have u2 : (Y.alloc (.cells #[.int .i64 y.th, .int .i64 y.pl, .string (letS 97 [y.k]), .string (letS 97 y.hl), .int .i64 vy] 42)).cell? ⟨wr.heap.size, 2, none⟩ = some (.string (letS 97 [x.k])) := cell_later hZ (cellB hYn rfl)
      have v3 : (Y.alloc (.cells #[.int .i64 y.th, .int .i64 y.pl, .string (letS 97 [y.k]), .string (letS 97 y.hl), .int .i64 vy] 42)).cell? ⟨Y.heap.size, 3, none⟩ = some (.string (letS 97 y.hl)) := cellB hZn rfl
      have hWZ : Below wr.heap.size wr (Y.alloc (.cells #[.int .i64 y.th, .int .i64 y.pl, .string (letS 97 [y.k]), .string (letS 97 y.hl), .int .i64 vy] 42)) := hY.trans (hZ.mono hY.size)
      generalize hZe : Y.alloc (.cells #[.int .i64 y.th, .int .i64 y.pl, .string (letS 97 [y.k]), .string (letS 97 y.hl), .int .i64 vy] 42) = Z at *
      have HZ := show Hid _ from hZe
      have s0Z := cell_later hWZ s0
      have t0Z := cell_later hWZ t0
      have hbZ := hbR.below hWZ
      have haZ := haR.below hWZ
      have hBZ := hBr.trans (hWZ.mono hBr.size)
      have HYs : Hid (Y.heap.size = wr.heap.size + 1) := hYs
      clear hYe hZe hYn hZn hY hZ hYs
      go_upto_region 6 with fail
      rw [HY.out]
      go_upto_region 7 with fail
      rw [HZ.out]
      go_upto_region 8 with (first | (go_at_call 98; refine (hAm _).mono ?_; rintro e w2 ⟨rfl, hw⟩; have hw2 := hw.symm; clear hw; subst hw2))
      clear hAm s1 s2 s2Y c0 c1 c2 c3 c4 d0 d1 d2 d3 d4 d0Y d1Y d2Y d3Y d4Y hbR haR hb ha HY HZ s0 t0
      cases d with
      | false =>
        have hr : r = false := HFi.out fun hc => by have := (HC.out.1 hc).1; cases this
        subst hr
        go_quiet (fail)
        go_wp2
        go_ret
        exact ⟨rfl, hBZ.trans ((below_drewN _ _).mono hBZ.size)⟩
      | true =>
        by_cases hi0 : i = 0
        · subst hi0
          have HNx : Hid (∀ j, j < 1 → CondI la p j) := HNi.out (HC.out.2 ⟨rfl, HT0.out rfl, fun j hj => absurd hj (by omega)⟩)
          go_quiet (fail)
          go_wp2
          go_loopw [10] (fun y wq => y = .int .i64 0 ∧ Below w.heap.size w wq) (fun _ _ => 0)
          case atStart => exact ⟨rfl, hBZ.trans ((below_drewN _ _).mono hBZ.size)⟩
          case round =>
            obtain ⟨rfl, hBq⟩ := hrel
            go_wp2
            go_roundw
            case rel => exact ⟨1, by omega, by go_num, HNx, hBq⟩
            case measure => (simp [intOf] <;> omega)
        · have ip : (0 : Int) < (i : Int) := by omega
          have ipn : 0 < i := by omega
          by_cases hlt : x.th < x0.th
          · have hr : r = false := HFi.out fun hc => by have := (HC.out.1 hc).2.1; omega
            subst hr
            have hltI : (x.th : Int) < (x0.th : Int) := by omega
            go_quiet (fail)
            go_wp2
            go_ret
            exact ⟨rfl, hBZ.trans ((below_drewN _ _).mono hBZ.size)⟩
          · have hltI : ¬ (x.th : Int) < (x0.th : Int) := by omega
            have hltN : decide (x.th < x0.th) = false := decide_eq_false hlt
            have hltM : decide ((x.th : Int) < (x0.th : Int)) = false := decide_eq_false hltI
            have HNx : Hid ((∀ j, j < i → apartB (aqOf la (pAt p j)) x = true) → ∀ j, j < i + 1 → CondI la p j) := fun hh => HNi.out (HC.out.2 ⟨rfl, by omega, hh⟩)
            have HFx : Hid (∀ j, j < i → apartB (aqOf la (pAt p j)) x = false → r = false) := fun j hj hf => HFi.out fun hc => by
              have := (HC.out.1 hc).2.2 j hj
              rw [hf] at this; cases this
            clear HC HFi HNi HT0
            go_quiet (fail)
            go_wp2
            go_loopw [10] (fun y wq => ∃ j : Nat, j ≤ i ∧ y = .int .i64 (j : Int) ∧ Hid (∀ j', j' < j → apartB (aqOf la (pAt p j')) x = true) ∧ ∃ m, wq = Z.drewN m) (fun y _ => i - (intOf y).toNat)
            case atStart => exact ⟨0, Nat.zero_le _, rfl, (fun j hj => absurd hj (by omega)), (by first | exact dN1 | exact dN2)⟩
            case round =>
              obtain ⟨j, hj, rfl, HJ, mq, hq⟩ := hrel
              have HQ : Hid (wr = Z.drewN mq) := hq
              have hZq : Below Z.heap.size Z wr := by rw [hq]; exact below_drewN _ _
              have hBq := hBZ.trans (hZq.mono hBZ.size)
              have b0 := cell_later hZq u0
              have b2 := cell_later hZq u2
              clear hq
              by_cases hjl : j < i
              · obtain ⟨q, hqj⟩ := get_some p j (by omega)
                have hqin := hin q (List.mem_of_getElem? hqj)
                obtain ⟨xj, hxj⟩ := get_some la q hqin
                have hxjo := hok xj (List.mem_of_getElem? hxj)
                obtain ⟨g1, o1, e1, f1⟩ := (hbZ.below hZq) j (q : Int) (by simp [intN, hqj])
                cases e1
                obtain ⟨G1, e2, a0, _, a2, _, _⟩ := (haZ.below hZq) q xj hxj
                cases e2
                have hst := letS_one' xj.k x.k hxjo.k hxo.k
                have HJ2 : Hid (apartB xj x = true → ∀ j', j' < j + 1 → apartB (aqOf la (pAt p j')) x = true) := fun h j' hj' => by
                  by_cases he : j' = j
                  · rw [he, pAt_get hqj, aqOf_get hxj]; exact h
                  · exact HJ.out j' (by omega)
                have HFj : Hid (apartB xj x = false → r = false) := fun h => HFx.out j hjl (by rw [pAt_get hqj, aqOf_get hxj]; exact h)
                have j0 : (0 : Int) ≤ (j : Int) := by omega
                have jl : (j : Int) < (i : Int) := by omega
                have jp : (j : Int) < (p.length : Int) := by omega
                have q0 : (0 : Int) ≤ (q : Int) := by omega
                have ql : (q : Int) < (la.length : Int) := by omega
                clear hqj hxj HNx HFx HJ hbZ haZ
                by_cases ht : xj.th = x.th
                · have hr : r = false := HFj.out (by rw [apartB, decide_eq_true ht]; rfl)
                  subst hr
                  clear HFj HJ2 hst
                  generalize xj.th = zt at *
                  subst ht
                  go_upto_region 13 with fail
                  go_quiet (fail)
                  go_wp2
                  go_ret
                  exact ⟨rfl, hBq.trans ((below_drewN _ _).mono hBq.size)⟩
                · have htI : ((xj.th : Int) == (x.th : Int)) = false := beq_false_of_ne (by omega)
                  by_cases hkk : xj.k = x.k
                  · have hr : r = false := HFj.out (by rw [apartB, decide_eq_true hkk, Bool.not_true, Bool.and_false])
                    subst hr
                    clear HFj HJ2 hst
                    generalize xj.k = zk at *
                    subst hkk
                    go_upto_region 13 with fail
                    go_quiet (fail)
                    go_wp2
                    go_ret
                    exact ⟨rfl, hBq.trans ((below_drewN _ _).mono hBq.size)⟩
                  · have hap : apartB xj x = true := by rw [apartB, decide_eq_false ht, decide_eq_false hkk]; rfl
                    have HJ3 : Hid (∀ j', j' < j + 1 → apartB (aqOf la (pAt p j')) x = true) := HJ2.out hap
                    rw [decide_eq_false hkk] at hst
                    clear HFj HJ2 hap
                    go_upto_region 13 with fail
                    go_quiet (fail)
                    go_wp2
                    go_roundw
                    case rel => exact ⟨j + 1, by omega, by go_num, HJ3, by rw [HQ.out]; first | exact dN1 | exact dN2⟩
                    case measure => (simp [intOf] <;> omega)
              · have jl : ¬ (j : Int) < (i : Int) := by omega
                have HNy : Hid (∀ j, j < i + 1 → CondI la p j) := HNx.out fun j' hj' => HJ.out j' (by omega)
                clear HNx HFx HJ hbZ haZ
                go_wp2
                go_roundw
                case rel => exact ⟨i + 1, by omega, by go_num, HNy, hBq⟩
                case measure => (simp [intOf] <;> omega)
    · have il : ¬ (i : Int) < (p.length : Int) := by omega
      have hre := HRT.out fun j hj => HN.out j (by omega)
      have hde : decide (1 < (p.length : Int)) = decide (1 < p.length) := decide_eq_decide.2 (by omega)
      subst hre
      clear HRF HRT HN
      go_wp2
      go_ret
      exact ⟨by simp, hBr⟩
end Go.Proofs.Ytdfndcbakcmgiaa
namespace Go.Proofs.Ytdfndcbakcmgiaa
open Go.RowKit

/-! Lists of lists of numbers, as they lie. -/
def ChAt (w : World) (a : Option Addr) (L : List (List Nat)) (B : Nat) : Prop := ∀ (k : Nat) (q : List Nat), L[k]? = some q → ∃ g b cb, a = some ⟨g, 0, none⟩ ∧ B ≤ g ∧ w.cell? ⟨g, k, none⟩ = some (.slice b q.length cb) ∧ IntsAt w b (intN q) ∧ ∀ p, b = some p → B ≤ p.block
theorem ChAt.below {w w' : World} {a : Option Addr} {L : List (List Nat)} {B : Nat} (h : ChAt w a L B) (hb : Below w.heap.size w w') : ChAt w' a L B := fun k q hq => by
  obtain ⟨g, b, cb, h1, h0, h2, h3, h4⟩ := h k q hq
  exact ⟨g, b, cb, h1, h0, cell_later hb h2, h3.below hb, h4⟩
structure LIn (w : World) (B : Nat) (v : Value) (L : List (List Nat)) (vs : List Value) : Prop where
  row : w.ownsRow B 46 1 v L.length vs
  el : ∀ (k : Nat) (q : List Nat), L[k]? = some q → ∃ g c, vs[k]? = some (.slice (some ⟨g, 0, none⟩) q.length c) ∧ IntsAt w (some ⟨g, 0, none⟩) (intN q) ∧ (B ≤ g ∧ g < w.heap.size) ∧ some g ≠ v.ownBlock
theorem LIn.nil (w : World) (B : Nat) : LIn w B (.slice none 0 0) [] [] := ⟨World.ownsRow_nil _ _ _ _, fun k q h => by simp at h⟩
theorem LIn.below {w w' : World} {B : Nat} {v : Value} {L : List (List Nat)} {vs : List Value} (h : LIn w B v L vs) (hb : Below w.heap.size w w') : LIn w' B v L vs :=
  ⟨ownsRow_below h.row hb, fun k q hq => by
    obtain ⟨g, c, h1, h2, h3, h4⟩ := h.el k q hq
    exact ⟨g, c, h1, h2.below hb, ⟨h3.1, Nat.lt_of_lt_of_le h3.2 hb.size⟩, h4⟩⟩
theorem LIn.at {w : World} {B : Nat} {v : Value} {L : List (List Nat)} {vs : List Value} (h : LIn w B v L vs) : ∃ a c, v = .slice a L.length c ∧ ChAt w a L B := by
  obtain ⟨hr, he⟩ := h
  rcases hr.2 with ⟨h1, h2⟩ | ⟨g, cap, cur, h1, h0, _⟩
  · refine ⟨none, 0, by rw [h1, h2], fun k q hq => ?_⟩
    have := (List.getElem?_eq_some_iff.1 hq).1
    omega
  · subst h1
    refine ⟨_, cap, rfl, fun k q hq => ?_⟩
    obtain ⟨g2, c, e1, e2, e3, _⟩ := he k q hq
    have hk := (List.getElem?_eq_some_iff.1 hq).1
    refine ⟨g, some ⟨g2, 0, none⟩, c, rfl, h0, ?_, e2, fun p hp => by cases hp; exact e3.1⟩
    rw [hr.cellAt k (by omega)]
    exact e1
theorem LIn.push {w w5 : World} {B : Nat} {v v' u : Value} {L : List (List Nat)} {vs : List Value} (h : LIn w B v L vs) {g c : Nat} {q : List Nat} (hu : u = .slice (some ⟨g, 0, none⟩) q.length c) (hq : IntsAt w (some ⟨g, 0, none⟩) (intN q)) (hg : B ≤ g ∧ g < w.heap.size) (hgv : some g ≠ v.ownBlock)
    {o : Obj} (ho5 : w5.ownsRow B 46 1 v' (L.length + 1) (vs ++ [u])) (hg5 : (w.alloc o).grownBy w5 v.ownBlock) (hf5 : Fresh (w.alloc o) v v') : LIn w5 B v' (L ++ [q]) (vs ++ [u]) := by
  have hs : (w.alloc o).heap.size = w.heap.size + 1 := by simp
  have hs5 := hg5.size
  have hba : Below w.heap.size w (w.alloc o) := (Below.refl _ _).alloc (Nat.le_refl _) _
  have hvl : vs.length = L.length := by have := h.row.1; omega
  have keep : ∀ (g : Nat) (q : List Nat), B ≤ g ∧ g < w.heap.size → some g ≠ v.ownBlock → IntsAt w (some ⟨g, 0, none⟩) (intN q) → IntsAt w5 (some ⟨g, 0, none⟩) (intN q) ∧ (B ≤ g ∧ g < w5.heap.size) ∧ some g ≠ v'.ownBlock := fun g q h1 h2 h3 => by
    refine ⟨(h3.below hba).grown hg5 (fun p hp => by cases hp; exact h2), ⟨h1.1, by omega⟩, ?_⟩
    rcases hf5 with e | ⟨g', e, hg'⟩
    · rw [e]; exact h2
    · rw [e]; intro hh; cases hh; omega
  refine ⟨by rw [List.length_append]; exact ho5, fun k q' hk => ?_⟩
  by_cases hkl : k < L.length
  · rw [List.getElem?_append_left hkl] at hk
    obtain ⟨g1, c1, h1, h2, h3, h4⟩ := h.el k q' hk
    exact ⟨g1, c1, by rw [List.getElem?_append_left (by omega)]; exact h1, keep g1 q' h3 h4 h2⟩
  · have hke : k = L.length := by
      have := (List.getElem?_eq_some_iff.1 hk).1
      simp at this; omega
    subst hke
    rw [List.getElem?_append_right (Nat.le_refl _)] at hk
    simp at hk
    subst hk
    refine ⟨g, c, ?_, keep g q hg hgv hq⟩
    rw [List.getElem?_append_right (by omega), hvl, Nat.sub_self, hu]; rfl

section
variable {P : Program} (w : World)
/-- 'append(s, x)', of long rows too. -/
theorem wpList_appendBig {ops : Array Oper} {rest : List Oper} {o : Oper} {a : Act} {Q : Exit → Act → World → Prop} (hgd : o.guard = none) (s x : Operand) (t : TypeId)
    (ho : o.op = .call { callee := .builtin .append, args := #[s, x], argTypes := #[t, t] })
    (base : Nat) (e : TypeId) (z : Value) (size bytes : Nat) (ht : P.underlying t = some (.slice e)) (hinf : (P.info? e).map (fun i => (i.zero, i.size, i.bytes)) = some (some z, size, bytes))
    (hzs : z.cells.size = size) (hsz : 0 < size)
    (v : Value) (n : Nat) (xs : List Value) (hs : a.eval s = v) (hown : w.ownsRow base e size v n xs) (cs : Array Value) (g : Nat) (hgs : w.heap.size = g)
    (hx : a.eval x = .slice (some ⟨g, 0, none⟩) 1 1) (hl : cs.size = size) (h1 : ∀ u ∈ cs.toList, u.oneCell' = true)
    (h63 : n + 1 ≤ maxLen) (hbytes : (n + 1) * bytes ≤ 140737488355328) (hbase : base ≤ w.heap.size)
    (h : ∀ v' w', w'.ownsRow base e size v' (n + 1) (xs ++ cs.toList) → (w.alloc (.cells cs e)).grownBy w' v.ownBlock → Fresh (w.alloc (.cells cs e)) v v' → v'.ownBlock ≠ none → wpList P ops Q rest (a.put o.dst v') w') :
    wpList P ops Q (o :: rest) a (w.alloc (.cells cs e)) := by
  subst hgs
  obtain ⟨i, hi, hii⟩ := Option.map_eq_some_iff.1 hinf
  simp only [Prod.mk.injEq] at hii
  obtain ⟨hz, hsize, hby⟩ := hii
  have hnews : ∀ j u, cs.toList[j]? = some u → (w.alloc (.cells cs e)).cell? ((⟨w.heap.size, 0, none⟩ : Addr).add j) = some u := by
    intro j u hu
    have hadd : (⟨w.heap.size, 0, none⟩ : Addr).add j = ⟨w.heap.size, j, none⟩ := by unfold Addr.add; split <;> simp_all
    rw [hadd, cell_of_row _ _ _ _ _ _ (heap_alloc_new w (.cells cs e))]
    simpa using hu
  obtain ⟨v', w', hr, h2, h3, h4, h5⟩ := run_append2 (P := P) (w.alloc (.cells cs e)) base t o.type e i z size bytes ht hi hz hsize hby hzs hsz v n xs (hown.alloc _) ⟨w.heap.size, 0, none⟩ 1 1 cs.toList (by simpa using hl) hnews h1 h63 hbytes (by simp; omega) (by decide)
  refine wpList_plain hgd fun K hK => ?_
  unfold Oper.wp execOp
  simp only [ho, resolve, invoke, builtin, Sem.run_bind, Sem.run_pure, Result.andThen_ok, List.map_toArray, List.map_cons, List.map_nil, hs, hx, hr]
  exact hK _ _ (h v' w' h2 h3 h4 h5)
end

theorem infoL : (Try.prog.info? 46).map (fun i => (i.zero, i.size, i.bytes)) = some (some (.slice none 0 0), 1, 24) := by kernel_rfl
theorem len_flatMap {A B : Type} (f : A → List B) (c : Nat) : ∀ (l : List A), (∀ x ∈ l, (f x).length ≤ c) → (l.flatMap f).length ≤ l.length * c
  | [], _ => by simp
  | x :: l, h => by
    rw [List.flatMap_cons, List.length_append, List.length_cons, Nat.add_mul, Nat.one_mul]
    have h1 := h x (List.mem_cons_self ..)
    have h2 := len_flatMap f c l fun y hy => h y (List.mem_cons_of_mem _ hy)
    omega
theorem nextC_len (la : List Aq) (p : List Nat) : (nextC la p).length ≤ la.length := by
  rw [nextC, List.length_map]
  exact Nat.le_trans (List.length_filter_le _ _) (by simp)
theorem chn_len (la : List Aq) (hla : la.length ≤ 100) : ∀ n, (chn la n).length ≤ 100 ^ n
  | 0 => by simp [chn]
  | n + 1 => by
    rw [chn, Nat.pow_succ]
    exact Nat.le_trans (len_flatMap _ 100 _ fun p _ => Nat.le_trans (nextC_len la p) hla) (Nat.mul_le_mul_right _ (chn_len la hla n))
theorem chn_mem {la : List Aq} {n : Nat} {q : List Nat} (h : q ∈ chn la n) : q.length = n ∧ ∀ i ∈ q, i < la.length := by
  rw [chn_cf] at h
  obtain ⟨r, hr, hl⟩ := cf_pre la n [] q h
  rw [List.nil_append] at hr
  exact ⟨by rw [hr]; exact hl, cf_in la n [] (fun i hi => by cases hi) q h⟩
/-- The chains of one more ask that come of the first k, and of the next one by the first i asks. -/
def part2 (la : List Aq) (m k : Nat) : List (List Nat) := ((chn la m).take k).flatMap (nextC la)
def part3 (la : List Aq) (q : List Nat) (i : Nat) : List (List Nat) := ((List.range i).filter (okC la q)).map fun k => q ++ [k]
theorem part2_succ {la : List Aq} {m k : Nat} {q : List Nat} (h : (chn la m)[k]? = some q) : part2 la m (k + 1) = part2 la m k ++ part3 la q la.length := by
  rw [part2, List.take_add_one, h, List.flatMap_append]; simp [part2, part3, nextC]
theorem part3_yes {la : List Aq} {q : List Nat} {i : Nat} (h : okC la q i = true) : part3 la q (i + 1) = part3 la q i ++ [q ++ [i]] := by
  simp [part3, List.range_succ, List.filter_append, h]
theorem part3_no {la : List Aq} {q : List Nat} {i : Nat} (h : okC la q i = false) : part3 la q (i + 1) = part3 la q i := by
  simp [part3, List.range_succ, List.filter_append, h]
theorem part_len {la : List Aq} (hla : la.length ≤ 100) {m k i : Nat} {q : List Nat} (hm : m ≤ 4) (hk : k < (chn la m).length) (hi : i ≤ la.length) : (part2 la m k ++ part3 la q i).length ≤ 10000000000 := by
  have h1 : (part2 la m k).length ≤ k * 100 := by
    refine Nat.le_trans (len_flatMap _ 100 _ fun p _ => Nat.le_trans (nextC_len la p) hla) ?_
    rw [List.length_take]
    exact Nat.mul_le_mul_right _ (Nat.min_le_left _ _)
  have h2 : (part3 la q i).length ≤ 100 := by
    rw [part3, List.length_map]
    exact Nat.le_trans (List.length_filter_le _ _) (by simp; omega)
  have h3 : (chn la m).length ≤ 100 ^ 4 := Nat.le_trans (chn_len la hla m) (Nat.pow_le_pow_right (by omega) hm)
  rw [List.length_append]
  omega
end Go.Proofs.Ytdfndcbakcmgiaa
namespace Go.Proofs.Ytdfndcbakcmgiaa
open Go.RowKit
attribute [local go_sem ↓] mkI_fold

/-- What a list of numbers becomes when it is copied into a new one. -/
theorem copied (w : World) (q : List Nat) (hq : q.length ≤ 100) (b : Option Addr) (cb : Nat) (hb : IntsAt w b (intN q)) :
    ∃ wm wc, (mkI (.int .i64 (q.length : Int)) (.int .i64 (q.length : Int))).run Try.prog w = .ok (.slice (some ⟨w.heap.size, 0, none⟩) q.length q.length) wm ∧
      (Builtin.copy_ #[46, 46] 3 #[.slice (some ⟨w.heap.size, 0, none⟩) q.length q.length, .slice b q.length cb]).run Try.prog wm = .ok (goInt q.length) wc ∧
      Below w.heap.size w wm ∧ Below w.heap.size w wc ∧ wc.ownsRow w.heap.size 3 1 (.slice (some ⟨w.heap.size, 0, none⟩) q.length q.length) q.length (intV q) := by
  obtain ⟨i0, hi0, hz0, hz1, hz2⟩ := info_split infoInt
  obtain ⟨wm, hmk, hom, hgm⟩ := run_make_full (P := Try.prog) w w.heap.size 46 3 i0 (.int .i64 0) 1 Try.underlying46 hi0 hz0 hz1 .i64 .i64 q.length (by rw [hz2]; omega) (by unfold maxLen; omega) (Nat.le_refl _)
  rw [mkI_fold] at hmk
  rw [madeI] at hom
  have hBm : Below w.heap.size w wm := below_grown (Below.refl _ _) (Nat.le_refl _) hgm (fun k hk => by cases hk)
  obtain ⟨cur, hblk, hcv⟩ : ∃ cur : List Value, wm.heap[w.heap.size]? = some (.cells cur.toArray 3 (0, 0)) ∧ cur = List.replicate q.length (.int .i64 0) := by
    rcases hom.2 with ⟨h, _⟩ | ⟨g, cap, cur, h1, _, h3, _, _, h5, h6⟩
    · cases h
    · simp only [Value.slice.injEq, Option.some.injEq, Addr.mk.injEq, and_true, true_and] at h1
      obtain ⟨rfl, rfl⟩ := h1
      refine ⟨cur.toList, by simpa using h3, ?_⟩
      rw [← h6, List.take_of_length_le (by rw [Array.length_toList, h5]; exact Nat.le_refl _)]
  subst hcv
  have hiq : (intN q).length = q.length := by simp [intN]
  obtain ⟨wc, hcp, hbc, hBc⟩ := copyI w wm w.heap.size w.heap.size q.length hBm (Nat.le_refl _) _ hblk b cb (intN q) (hb.below hBm) (by omega) (by simp [hiq])
  rw [hiq] at hcp hbc
  refine ⟨wm, wc, hmk, hcp, hBm, hBc, ?_⟩
  have hzv : intZ (intN q) = intV q := by simp [intZ, intN, intV]
  rw [hzv, List.drop_replicate, Nat.sub_self, List.replicate_zero, List.append_nil] at hbc
  refine ⟨by simp [intV], .inr ⟨w.heap.size, _, _, rfl, Nat.le_refl _, hbc, Nat.le_refl _, by unfold maxLen; omega, by simp [intV], ?_⟩⟩
  rw [List.take_of_length_le (by simp [intV])]

theorem LIn.chain {w w5 w6 : World} {B : Nat} {v v6 : Value} {L : List (List Nat)} {vs : List Value} {q : List Nat} {i g5 c5 : Nat} (h : LIn w B v L vs) (hBw : B ≤ w.heap.size) (hb : Below w.heap.size w w5) (ho5 : w5.ownsRow w.heap.size 3 1 (.slice (some ⟨g5, 0, none⟩) (q.length + 1) c5) (q.length + 1) (intV q ++ [.int .i64 (i : Int)]))
    {o : Obj} (ho6 : w6.ownsRow B 46 1 v6 (L.length + 1) (vs ++ [.slice (some ⟨g5, 0, none⟩) (q.length + 1) c5])) (hg6 : (w5.alloc o).grownBy w6 v.ownBlock) (hf6 : Fresh (w5.alloc o) v v6) : LIn w6 B v6 (L ++ [q ++ [i]]) (vs ++ [.slice (some ⟨g5, 0, none⟩) (q.length + 1) c5]) := by
  have hlt := ho5.lt g5 rfl
  refine (h.below hb).push (g := g5) (c := c5) (by simp) ?_ ⟨Nat.le_trans hBw hlt.1, hlt.2⟩ ?_ ho6 hg6 hf6
  · exact intsAt_rowV (B := w.heap.size) (n := q.length + 1) (c := c5) (L := q ++ [i]) (by simp) (by rw [show intV (q ++ [i]) = intV q ++ [.int .i64 (i : Int)] by simp [intV]]; exact ho5)
  · intro hh
    have := (World.ownsRow.lt h.row g5 hh.symm).2
    omega

theorem okC_nil (la : List Aq) (i : Nat) : okC la [] i = true := rfl
def thB (la : List Aq) (i : Nat) (q : List Nat) : Bool := q.all fun j => !decide ((aqOf la j).th = (aqOf la i).th)
theorem thB_snoc {la : List Aq} {i j : Nat} {q : List Nat} {k : Nat} (h : q[j]? = some k) : thB la i (q.take (j + 1)) = (thB la i (q.take j) && !decide ((aqOf la k).th = (aqOf la i).th)) := by
  rw [thB, List.take_add_one, h, List.all_append]; simp [thB]
theorem okC_thB {la : List Aq} {q : List Nat} {i : Nat} : okC la q i = (thB la i q && (q.isEmpty || hasB la (pAt q (q.length - 1)) i)) := rfl

set_option maxRecDepth 100000 in
set_option maxHeartbeats 2000000 in
theorem chains_any (a : Option Addr) (ca : Nat) (la : List Aq) (hok : ∀ x ∈ la, x.Ok) (hla : la.length ≤ 100) (n : Nat) (hn : n ≤ 5) (w : World) (ha : AqsAt w a la) :
    Calls Try.prog 66 #[.slice a la.length ca, .int .i64 (n : Int)] w fun e w' => ∃ b cb, e = .returned (.slice b (chn la n).length cb) ∧ Below w.heap.size w w' ∧ ChAt w' b (chn la n) w.heap.size := by
  have hB0 : Below w.heap.size w (w.alloc (.cells #[.slice none 0 0] 46)) := (Below.refl _ _).alloc (Nat.le_refl _) _
  have h0 : ChAt (w.alloc (.cells #[.slice none 0 0] 46)) (some ⟨w.heap.size, 0, none⟩) (chn la 0) w.heap.size := fun k q hq => by
    have hk : k = 0 := by have := (List.getElem?_eq_some_iff.1 hq).1; simpa [chn] using this
    subst hk
    simp [chn] at hq
    subst hq
    exact ⟨_, none, 0, rfl, Nat.le_refl _, cellB (heap_alloc_new _ _) rfl, IntsAt.nil _ _, fun p hp => by cases hp⟩
  go_enter Try.func66, Try.ntmps66
  go_wp2
  go_loopw [5, 6] (fun v y wr => ∃ (m : Nat) (b : Option Addr) (cb : Nat), m ≤ n ∧ v = .slice b (chn la m).length cb ∧ y = .int .i64 (m : Int) ∧ ChAt wr b (chn la m) w.heap.size ∧ Below w.heap.size w wr) (fun _ y _ => n - (intOf y).toNat)
  case atStart => exact ⟨0, _, 1, Nat.zero_le _, rfl, rfl, h0, hB0⟩
  case round =>
    obtain ⟨m, b, cb, hm, rfl, rfl, hC, hB⟩ := hrel
    clear h0 hB0
    have m0 : (0 : Int) ≤ (m : Int) := by omega
    have hcl := Nat.le_trans (chn_len la hla m) (Nat.pow_le_pow_right (by omega) (show m ≤ 5 by omega))
    by_cases hmn : m < n
    · have mI : (m : Int) < (n : Int) := by omega
      have haw := ha.below hB
      go_wp2
      generalize hX : wr = X at *
      clear hX
      go_loopw [7, 8] (fun v y wr => ∃ (k : Nat) (vs : List Value), k ≤ (chn la m).length ∧ y = .int .i64 (k : Int) ∧ LIn wr X.heap.size v (part2 la m k) vs ∧ Below X.heap.size X wr) (fun _ y _ => (chn la m).length - (intOf y).toNat)
      case atStart => exact ⟨0, [], Nat.zero_le _, rfl, LIn.nil _ _, Below.refl _ _⟩
      case round =>
        obtain ⟨k, vs, hk, rfl, hL, hB2⟩ := hrel
        by_cases hkl : k < (chn la m).length
        · obtain ⟨q, hq⟩ := get_some (chn la m) k hkl
          obtain ⟨hql, hqi⟩ := chn_mem (List.mem_of_getElem? hq)
          obtain ⟨g, bq, cq, e1, _, s1, s2, _⟩ := hC k q hq
          subst e1
          have k0 : (0 : Int) ≤ (k : Int) := by omega
          have kl : (k : Int) < ((chn la m).length : Int) := by omega
          have HP : Hid (part2 la m (k + 1) = part2 la m k ++ part3 la q la.length) := part2_succ hq
          have HPL : Hid (∀ i, i ≤ la.length → (part2 la m k ++ part3 la q i).length ≤ 10000000000) := fun i hi => part_len hla (by omega) hkl hi
          clear hC hq
          go_wp2
          go_loopw [7, 9] (fun v y wr => ∃ (i : Nat) (vs : List Value), i ≤ la.length ∧ y = .int .i64 (i : Int) ∧ LIn wr X.heap.size v (part2 la m k ++ part3 la q i) vs ∧ Below X.heap.size X wr) (fun _ y _ => la.length - (intOf y).toNat)
          case atStart => exact ⟨0, vs, Nat.zero_le _, rfl, by simpa [part3] using hL, hB2⟩
          case round =>
            obtain ⟨i, vs, hi, rfl, hL, hB3⟩ := hrel
            by_cases hil : i < la.length
            · obtain ⟨x, hx⟩ := get_some la i hil
              have hxo := hok x (List.mem_of_getElem? hx)
              have haR := haw.below hB3
              obtain ⟨G, e2, c0, c1, c2, c3, c4⟩ := haR i x hx
              subst e2
              have i0 : (0 : Int) ≤ (i : Int) := by omega
              have il : (i : Int) < (la.length : Int) := by omega
              have s1R := cell_later hB3 s1
              have s2R := s2.below hB3
              have HO : Hid (okC la q i = (thB la i q && (q.isEmpty || hasB la (pAt q (q.length - 1)) i))) := okC_thB
              have HY : Hid (okC la q i = true → part2 la m k ++ part3 la q (i + 1) = (part2 la m k ++ part3 la q i) ++ [q ++ [i]]) := fun h => by rw [part3_yes h, List.append_assoc]
              have HZ : Hid (okC la q i = false → part2 la m k ++ part3 la q (i + 1) = part2 la m k ++ part3 la q i) := fun h => by rw [part3_no h]
              have hPl := HPL.out i hi
              go_wp2
              generalize hV : wr = V at *
              clear hV
              go_loopw [10, 11] (fun d y wq => ∃ j : Nat, j ≤ m ∧ y = .int .i64 (j : Int) ∧ d = .bool (thB la i (q.take j)) ∧ ∃ mm, wq = V.drewN mm) (fun _ y _ => m - (intOf y).toNat)
              case atStart => exact ⟨0, Nat.zero_le _, rfl, rfl, 0, rfl⟩
              case round =>
                obtain ⟨j, hj, rfl, rfl, mm, hqw⟩ := hrel
                have HQ : Hid (wr = V.drewN mm) := hqw
                have hVq : Below V.heap.size V wr := by rw [hqw]; exact below_drewN _ _
                have s1q := cell_later hVq s1R
                have a0q := cell_later hVq c0
                clear hqw
                by_cases hjm : j < m
                · obtain ⟨z, hz⟩ := get_some q j (by omega)
                  have hzl := hqi z (List.mem_of_getElem? hz)
                  obtain ⟨xz, hxz⟩ := get_some la z hzl
                  obtain ⟨gq, oq, e4, f1⟩ := (s2R.below hVq) j (z : Int) (by simp [intN, hz])
                  subst e4
                  obtain ⟨G1, e2, b0, _, _, _, _⟩ := (haR.below hVq) z xz hxz
                  cases e2
                  have HS : Hid (thB la i (q.take (j + 1)) = (thB la i (q.take j) && !decide (xz.th = x.th))) := by rw [Hid, thB_snoc hz, aqOf_get hxz, aqOf_get hx]
                  have j0 : (0 : Int) ≤ (j : Int) := by omega
                  have jm : (j : Int) < (m : Int) := by omega
                  have jq : (j : Int) < (q.length : Int) := by omega
                  have z0 : (0 : Int) ≤ (z : Int) := by omega
                  have zl : (z : Int) < (la.length : Int) := by omega
                  generalize thB la i (q.take j) = d at *
                  clear hz hxz HP HPL HY HZ HO hL
                  cases d with
                  | false =>
                    have HS2 : Hid (thB la i (q.take (j + 1)) = false) := by rw [Hid, HS.out]; rfl
                    clear HS
                    go_upto_region 16 with fail
                    go_quiet (fail)
                    go_wp2
                    go_roundw
                    case rel => exact ⟨j + 1, by omega, by go_num, by rw [HS2.out], by rw [HQ.out]; first | exact dN1 | exact dN2⟩
                    case measure => (simp [intOf] <;> omega)
                  | true =>
                    by_cases ht : xz.th = x.th
                    · have HS2 : Hid (thB la i (q.take (j + 1)) = false) := by rw [Hid, HS.out, decide_eq_true ht]; rfl
                      clear HS
                      generalize xz.th = zt at *
                      subst ht
                      go_upto_region 16 with fail
                      go_quiet (fail)
                      go_wp2
                      go_roundw
                      case rel => exact ⟨j + 1, by omega, by go_num, by rw [HS2.out], by rw [HQ.out]; first | exact dN1 | exact dN2⟩
                      case measure => (simp [intOf] <;> omega)
                    · have HS2 : Hid (thB la i (q.take (j + 1)) = true) := by rw [Hid, HS.out, decide_eq_false ht]; rfl
                      have htI : ((xz.th : Int) == (x.th : Int)) = false := beq_false_of_ne (by omega)
                      have htJ : ((xz.th : Int) != (x.th : Int)) = true := by simp; omega
                      clear HS
                      go_upto_region 16 with fail
                      go_quiet (fail)
                      go_wp2
                      go_roundw
                      case rel => exact ⟨j + 1, by omega, by go_num, by rw [HS2.out], by rw [HQ.out]; first | exact dN1 | exact dN2⟩
                      case measure => (simp [intOf] <;> omega)
                · have jm : ¬ (j : Int) < (m : Int) := by omega
                  have hjq : q.take j = q := by rw [show j = q.length by omega, List.take_length]
                  rw [hjq]
                  have hLq := hL.below hVq
                  have hB4 := hB3.trans (hVq.mono hB3.size)
                  clear hjq HP HPL
                  cases hth : thB la i q with
                  | false =>
                    have HZ2 := HZ.out (by rw [HO.out, hth]; rfl)
                    rw [← HZ2] at hLq
                    clear HY HZ HO HZ2
                    go_wp2
                    go_roundw
                    case rel => exact ⟨i + 1, vs, by omega, by go_num, hLq, hB4⟩
                    case measure => (simp [intOf] <;> omega)
                  | true =>
                    rw [hth, Bool.true_and] at HO
                    have hwq := hLq.row.1
                    subst hql
                    by_cases hq0 : q = []
                    · have HY2 : Hid (part2 la q.length k ++ part3 la q (i + 1) = (part2 la q.length k ++ part3 la q i) ++ [q ++ [i]]) := HY.out (by rw [HO.out, hq0]; rfl)
                      have ql0 : ¬ 0 < q.length := by rw [hq0]; simp
                      have qlI : ¬ (0 : Int) < (q.length : Int) := by omega
                      have qlD : decide (0 < q.length) = false := decide_eq_false ql0
                      obtain ⟨wm, wc, hmk, hcp, hBm, hBc, hoc⟩ := copied wr q (by omega) bq cq (s2R.below hVq)
                      have s1m := cell_later hBm s1q
                      clear HY HZ HO hq0
                      go_upto_region 22 with fail
                      go_upto_region 23 with (at_builtin; go_loud (refine wpList_appendLit _ rfl _ _ 46 rfl wr.heap.size 3 (.int .i64 0) 1 8 Try.underlying46 infoInt rfl (by decide) _ _ _ rfl hoc _ _ rfl rfl rfl ?c2 ?c3 ?c4 ?c5 ?_))
                      all_goals first | rfl | omega | exact hBc.size | skip
                      intro v5 w5 ho5 hg5 hf5 hn5
                      have hB5 : Below wr.heap.size wr w5 := below_grown (hBc.alloc hBc.size _) (by have := hBc.size; simp; omega) hg5 (fun k hk => by simp [Value.ownBlock] at hk; omega)
                      obtain ⟨g5, cap5, hv5⟩ := row_form ho5 hn5
                      subst hv5
                      have own6 := (hLq.below hB5).row
                      have hB5X := hB4.trans (hB5.mono hB4.size)
                      have hs5X := hB5X.size
                      have ownL := hLq.row
                      clear hg5 hf5 hn5 hmk hcp
                      go_wp2_with (at_builtin; go_loud (refine wpList_appendBig _ rfl _ _ 114 rfl X.heap.size 46 (.slice none 0 0) 1 24 Try.underlying114 infoL rfl (by decide) _ _ _ rfl own6 _ _ rfl rfl rfl ?c6 ?c7 ?c8 ?c9 ?_))
                      case c6 => simp [Value.oneCell']
                      case c7 => unfold maxLen; omega
                      case c8 => omega
                      case c9 => exact hs5X
                      intro v6 w6 ho6 hg6 hf6 hn6
                      have hL6 := hLq.chain hB4.size hB5 ho5 (by rw [List.length_append]; exact ho6) hg6 hf6
                      have hB6 : Below X.heap.size X w6 := below_grown (hB5X.alloc hs5X _) (by simp; omega) hg6 (fun k hk => (World.ownsRow.lt ownL k hk).1)
                      clear hg6 hf6 hn6 ho6
                      go_wp2
                      go_roundw
                      case rel => exact ⟨i + 1, _, by omega, by go_num, by rw [HY2.out]; exact hL6, hB6⟩
                      case measure => (simp [intOf] <;> omega)
                    · have ql0 : 0 < q.length := List.length_pos_iff.2 hq0
                      have qlI : (0 : Int) < (q.length : Int) := by omega
                      obtain ⟨lst, hlst⟩ := get_some q (q.length - 1) (by omega)
                      have hlin := hqi lst (List.mem_of_getElem? hlst)
                      obtain ⟨xl, hxl⟩ := get_some la lst hlin
                      have hxlo := hok xl (List.mem_of_getElem? hxl)
                      have HO2 : Hid (okC la q i = decide (xl.k ∈ x.hl)) := by
                        rw [Hid, HO.out, hasB, pAt_get hlst, aqOf_get hxl, aqOf_get hx, share_one]
                        cases q with
                        | nil => exact absurd rfl hq0
                        | cons _ _ => rfl
                      have hAm := fun w => among_any xl.k hxlo.k x.hl (by have := hxo.len; omega) hxo.hl w
                      obtain ⟨gq, oq, e4, f1⟩ := (s2R.below hVq) (q.length - 1) (lst : Int) (by simp [intN, hlst])
                      subst e4
                      obtain ⟨G1, e2, _, _, b2, _, _⟩ := (haR.below hVq) lst xl hxl
                      cases e2
                      have a3 := cell_later hVq c3
                      have l0 : (0 : Int) ≤ (lst : Int) := by omega
                      have ll : (lst : Int) < (la.length : Int) := by omega
                      obtain ⟨m1, hm1⟩ : ∃ m1, q.length - 1 = m1 := ⟨_, rfl⟩
                      have hm2 : (q.length : Int) - 1 = (m1 : Int) := by omega
                      have m10 : (0 : Int) ≤ (m1 : Int) := by omega
                      have m1l : (m1 : Int) < (q.length : Int) := by omega
                      rw [hm1] at f1
                      have HM1 := show Hid _ from hm1
                      clear hlst hxl hm1 HO
                      generalize decide (xl.k ∈ x.hl) = dd at *
                      go_upto_region 18 with fail
                      go_quiet (first | (go_at_call 98; exact Calls.quiet_of_same (hAm _)))
                      cases dd with
                      | false =>
                        have HZ2 := HZ.out HO2.out
                        rw [← HZ2] at hLq
                        clear HY HZ HO2 HZ2
                        go_wp2
                        go_roundw
                        case rel => exact ⟨i + 1, vs, by omega, by go_num, hLq.below (below_drewN _ _), hB4.trans ((below_drewN _ _).mono hB4.size)⟩
                        case measure => (simp [intOf] <;> omega)
                      | true =>
                        have HY2 : Hid (part2 la q.length k ++ part3 la q (i + 1) = (part2 la q.length k ++ part3 la q i) ++ [q ++ [i]]) := HY.out HO2.out
                        have hLU := hLq.below (below_drewN wr nq)
                        have hBU := hB4.trans ((below_drewN wr nq).mono hB4.size)
                        have s1U := cell_later (below_drewN wr nq) s1q
                        have s2U := (s2R.below hVq).below (below_drewN wr nq)
                        clear HY HZ HO2 hAm f1 b2 a3
                        generalize wr.drewN nq = U at *
                        obtain ⟨wm, wc, hmk, hcp, hBm, hBc, hoc⟩ := copied U q (by omega) _ cq s2U
                        have s1m := cell_later hBm s1U
                        go_upto_region 22 with fail
                        go_upto_region 23 with (at_builtin; go_loud (refine wpList_appendLit _ rfl _ _ 46 rfl U.heap.size 3 (.int .i64 0) 1 8 Try.underlying46 infoInt rfl (by decide) _ _ _ rfl hoc _ _ rfl rfl rfl ?e2 ?e3 ?e4 ?e5 ?_))
                        all_goals first | rfl | omega | exact hBc.size | skip
                        intro v5 w5 ho5 hg5 hf5 hn5
                        have hB5 : Below U.heap.size U w5 := below_grown (hBc.alloc hBc.size _) (by have := hBc.size; simp; omega) hg5 (fun k hk => by simp [Value.ownBlock] at hk; omega)
                        obtain ⟨g5, cap5, hv5⟩ := row_form ho5 hn5
                        subst hv5
                        have own6 := (hLU.below hB5).row
                        have hB5X := hBU.trans (hB5.mono hBU.size)
                        have hs5X := hB5X.size
                        have ownL := hLU.row
                        clear hg5 hf5 hn5 hmk hcp
                        go_wp2_with (at_builtin; go_loud (refine wpList_appendBig _ rfl _ _ 114 rfl X.heap.size 46 (.slice none 0 0) 1 24 Try.underlying114 infoL rfl (by decide) _ _ _ rfl own6 _ _ rfl rfl rfl ?e6 ?e7 ?e8 ?e9 ?_))
                        case e6 => simp [Value.oneCell']
                        case e7 => unfold maxLen; omega
                        case e8 => omega
                        case e9 => exact hs5X
                        intro v6 w6 ho6 hg6 hf6 hn6
                        have hL6 := hLU.chain hBU.size hB5 ho5 (by rw [List.length_append]; exact ho6) hg6 hf6
                        have hB6 : Below X.heap.size X w6 := below_grown (hB5X.alloc hs5X _) (by simp; omega) hg6 (fun k hk => (World.ownsRow.lt ownL k hk).1)
                        clear hg6 hf6 hn6 ho6
                        go_wp2
                        go_roundw
                        case rel => exact ⟨i + 1, _, by omega, by go_num, by rw [HY2.out]; exact hL6, hB6⟩
                        case measure => (simp [intOf] <;> omega)
            · have il : ¬ (i : Int) < (la.length : Int) := by omega
              have HE : Hid (part2 la m k ++ part3 la q i = part2 la m (k + 1)) := by rw [Hid, HP.out, show i = la.length by omega]
              rw [HE.out] at hL
              go_wp2
              go_roundw
              case rel => exact ⟨k + 1, vs, by omega, by go_num, hL, hB3⟩
              case measure => (simp [intOf] <;> omega)
        · have kl : ¬ (k : Int) < ((chn la m).length : Int) := by omega
          have HE : Hid (part2 la m k = chn la (m + 1)) := by rw [Hid, part2, show k = (chn la m).length by omega, List.take_length]; rfl
          rw [HE.out] at hL
          obtain ⟨b2, cb2, hv, hC2⟩ := hL.at
          subst hv
          go_wp2
          go_roundw
          case rel => exact ⟨m + 1, b2, cb2, by omega, rfl, by go_num, (fun k q hq => by obtain ⟨g, b, cb, h1, h0, h2, h3, h4⟩ := hC2 k q hq; exact ⟨g, b, cb, h1, Nat.le_trans hB.size h0, h2, h3, fun p hp => Nat.le_trans hB.size (h4 p hp)⟩), hB.trans (hB2.mono hB.size)⟩
          case measure => (simp [intOf] <;> omega)
    · have mI : ¬ (m : Int) < (n : Int) := by omega
      have hmn2 : m = n := by omega
      subst hmn2
      go_wp2
      go_ret
      exact ⟨b, ⟨cb, rfl⟩, hB, hC⟩
end Go.Proofs.Ytdfndcbakcmgiaa
