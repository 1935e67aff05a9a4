import Derived.Test.YtdfndcbakcmgiabDoorS1
import Derived.Test.YtdfndcbakcmgiabDoorE1
import Derived.Test.YtdfndcbakcmgiabDoorS2
import Derived.Laws.StructEq
import Derived.ChangeKeysEq
import Derived.Deep.MidRow
import Derived.BigQuiet
import Derived.Deep.RegionHeld3
namespace Go.Proofs.YtdfndcbakcmgiabDoor
open Go.RowKit
attribute [local go_sem ↓] loadS_fold

/-! Does going on from a thread that wants a lock, to the one that has it, come back? -/
def ringF (W : Wd) (t : Nat) : Nat → Nat → Bool
  | 0, _ => false
  | f + 1, a => if stateOf W a = 2 then (if waitsOf W a = t then true else ringF W t f (waitsOf W a).toNat) else false
def ringW (W : Wd) : Bool := (List.range W.prog.length).any fun t => ringF W t W.prog.length t
theorem waits_lt {W : Wd} (G : W.Good) {a : Nat} (ha : a < W.prog.length) (h : stateOf W a = 2) : ∃ u : Nat, u < W.prog.length ∧ waitsOf W a = u := by
  obtain ⟨n, l, d, A, hs⟩ := stateOf_at W a (by omega) (by omega) G ha
  have hd : doSt W a d = 2 := by rw [← hs]; exact h
  have hdo : 97 ≤ byteI d 0 ∧ byteI d 0 ≤ 102 := by
    unfold doSt at hd
    by_cases hc : 97 ≤ byteI d 0 ∧ byteI d 0 ≤ 102
    · exact hc
    · rw [if_neg hc] at hd
      repeat' split at hd
      all_goals simp at hd
  rw [doSt, if_pos hdo] at hd
  obtain ⟨u, hu, _⟩ := lockSt_two hd
  have e : (W.prog[a]?.getD [])[W.place[a]?.getD 0]?.getD ⟨#[]⟩ = d := by rw [A.prog, A.place]; simp [A.txt]
  refine ⟨u, ?_, by rw [waitsOf, if_pos h, e, hu]⟩
  cases hk : W.has[(byteI d 0 - 97).toNat]? with
  | none => rw [hk] at hu; simp at hu
  | some o =>
    rw [hk] at hu
    simp only [Option.getD_some] at hu
    subst hu
    exact G.has _ u hk

set_option maxRecDepth 100000 in
set_option maxHeartbeats 1000000 in
theorem itoa_any (t : Nat) (ht : t < 10) (w : World) : Calls Tryd.prog 54 #[.int .i64 (t : Int)] w fun e w' => e = .returned (.string (nameS t)) ∧ w' = w := by
  have hcase : t = 0 ∨ t = 1 ∨ t = 2 ∨ t = 3 ∨ t = 4 ∨ t = 5 ∨ t = 6 ∨ t = 7 ∨ t = 8 ∨ t = 9 := by omega
  rcases hcase with rfl | rfl | rfl | rfl | rfl | rfl | rfl | rfl | rfl | rfl
  all_goals
    go_enter Tryd.func54, Tryd.ntmps54
    go_wp2
    go_ret
    exact ⟨rfl, rfl⟩

set_option maxRecDepth 100000 in
set_option maxHeartbeats 1000000 in
theorem inRing_any (V : Value) (W : Wd) (I : W.Inv) (w : World) (B : Nat) (hp : ProgIn w B V (progL W)) (t : Nat) (ht : t < W.prog.length) :
    Calls Tryd.prog 53 #[.agg #[V], .agg (msOf W).cells, .int .i64 (t : Int)] w fun e w' => e = .returned (.bool (ringF W t W.prog.length t)) ∧ Below w.heap.size w w' := by
  have G := I.good
  have po := progL_po G
  have ok := msOf_ok G
  have hpl := progL_len W
  have HP : Hid (ProgIn (boxes w V (msOf W)) B V (progL W)) := (hp.alloc (.cells #[V] 60)).alloc (.cells (msOf W).cells 79)
  have hst0 : StIn (boxes w V (msOf W)) (w.heap.size + 1) (msOf W) := ⟨heap_alloc2_new _ _ _, ok⟩
  have hc0 : (boxes w V (msOf W)).cell? ⟨w.heap.size, 0, none⟩ = some V := cellB (heap_alloc2_old _ _ _) rfl
  have hBw : Below w.heap.size w (boxes w V (msOf W)) := (two_new (Below.refl _ _)).2.2.1
  have HLk : Hid (∀ w' a, ProgIn w' B V (progL W) → a < W.prog.length → Calls Tryd.prog 57 #[.agg #[V], .agg (msOf W).cells, .int .i64 (a : Int)] w' fun e w'' => e = .returned (pairV (stateOf W a, waitsOf W a)) ∧ Below w'.heap.size w' w'') := fun w' a hp' ha => by
    rw [← look_sim G ha]
    exact Look_in V (progL W) (msOf W) ok w' B hp' po.l5 po.sok a (by rw [hpl]; exact ha) _ rfl
  have HTh : Hid (∀ w', ProgIn w' B V (progL W) → Calls Tryd.prog 52 #[.agg #[V]] w' fun e w'' => e = .returned (.int .i64 (W.prog.length : Int)) ∧ Below w'.heap.size w' w'') := fun w' hp' => by
    rw [← hpl]; exact Threads_any V (progL W) w' B hp'
  have n5 := G.n5
  have HG : Hid (W.Good) := G
  generalize msOf W = sW at *
  generalize hres : ringF W t W.prog.length t = res
  have HR : Hid (ringF W t W.prog.length t = res) := hres
  clear hp G po hres hpl I
  go_enter Tryd.func53, Tryd.ntmps53
  go_wp2
  go_loopw [7, 8] (fun x y wr => ∃ (k a : Nat), k ≤ W.prog.length ∧ a < W.prog.length ∧ y = .int .i64 (k : Int) ∧ x = .int .i64 (a : Int) ∧ Hid (ringF W t (W.prog.length - k) a = res) ∧ Below (boxes w V sW).heap.size (boxes w V sW) wr) (fun _ y _ => W.prog.length - (intOf y).toNat)
  case atStart => exact ⟨0, t, Nat.zero_le _, ht, rfl, rfl, HR, Below.refl _ _⟩
  case round =>
    obtain ⟨k, a, hk, ha, rfl, rfl, HS, hB⟩ := hrel
    have hsr := hst0.below hB
    have p0 := cell_later hB hc0
    have hT := HTh.out wr (HP.out.below hB)
    have hBr := hBw.trans (hB.mono hBw.size)
    clear HR
    by_cases hkl : k < W.prog.length
    · have kl : (k : Int) < (W.prog.length : Int) := by omega
      have hK := fun w' hw => HLk.out w' a ((HP.out.below hB).below (w' := w') hw) ha
      have HS2 : Hid ((if stateOf W a = 2 then (if waitsOf W a = t then true else ringF W t (W.prog.length - (k + 1)) (waitsOf W a).toNat) else false) = res) := by
        rw [Hid, ← HS.out, show W.prog.length - k = (W.prog.length - (k + 1)) + 1 by omega, ringF]
      by_cases h2 : stateOf W a = 2
      · obtain ⟨u, hu, hwu⟩ := waits_lt HG.out ha h2
        rw [h2, hwu] at hK
        rw [if_pos h2, hwu, Int.toNat_natCast] at HS2
        by_cases hut : u = t
        · have hr : res = true := by rw [← HS2.out, if_pos (by rw [hut])]
          subst hr hut
          go_wp2_with (first
            | (go_at_call 52; refine hT.mono ?_; rintro e w1 ⟨rfl, hb1⟩; have p1 := cell_later hb1 p0; have hld := (hsr.below hb1).loadS)
            | (go_at_call 57; refine (hK _ hb1).mono ?_; rintro e w2 ⟨he, hb2⟩; rw [pairV] at he; subst he))
          go_ret
          have hb12 := hb1.trans (hb2.mono hb1.size)
          exact ⟨rfl, hBr.trans (hb12.mono hBr.size)⟩
        · have hutI : ((u : Int) == (t : Int)) = false := beq_false_of_ne (by omega)
          have HS3 : Hid (ringF W t (W.prog.length - (k + 1)) u = res) := by rw [Hid, ← HS2.out, if_neg (by omega)]
          go_wp2_with (first
            | (go_at_call 52; refine hT.mono ?_; rintro e w1 ⟨rfl, hb1⟩; have p1 := cell_later hb1 p0; have hld := (hsr.below hb1).loadS)
            | (go_at_call 57; refine (hK _ hb1).mono ?_; rintro e w2 ⟨he, hb2⟩; rw [pairV] at he; subst he))
          go_roundw
          case rel => exact ⟨k + 1, u, by omega, hu, by go_num, rfl, HS3, hB.trans ((hb1.trans (hb2.mono hb1.size)).mono hB.size)⟩
          case measure => (simp [intOf] <;> omega)
      · have hr : res = false := by rw [← HS2.out, if_neg h2]
        subst hr
        generalize stateOf W a = sa at *
        generalize waitsOf W a = wa at *
        have h2I : (sa != 2) = true := by simpa using h2
        go_wp2_with (first
          | (go_at_call 52; refine hT.mono ?_; rintro e w1 ⟨rfl, hb1⟩; have p1 := cell_later hb1 p0; have hld := (hsr.below hb1).loadS)
          | (go_at_call 57; refine (hK _ hb1).mono ?_; rintro e w2 ⟨he, hb2⟩; rw [pairV] at he; subst he))
        go_ret
        have hb12 := hb1.trans (hb2.mono hb1.size)
        exact ⟨rfl, hBr.trans (hb12.mono hBr.size)⟩
    · have kl : ¬ (k : Int) < (W.prog.length : Int) := by omega
      have hr : res = false := by rw [← HS.out, show W.prog.length - k = 0 by omega]; rfl
      subst hr
      go_wp2_with (first | (go_at_call 52; refine hT.mono ?_; rintro e w1 ⟨rfl, hb1⟩))
      go_ret
      exact ⟨rfl, hBr.trans (hb1.mono hBr.size)⟩

set_option maxRecDepth 100000 in
set_option maxHeartbeats 1000000 in
theorem hasRing_any (V : Value) (W : Wd) (I : W.Inv) (w : World) (B : Nat) (hp : ProgIn w B V (progL W)) :
    Calls Tryd.prog 37 #[.agg #[V], .agg (msOf W).cells] w fun e w' => e = .returned (.bool (ringW W)) ∧ Below w.heap.size w w' := by
  have G := I.good
  have ok := msOf_ok G
  have hpl := progL_len W
  have HP : Hid (ProgIn (boxes w V (msOf W)) B V (progL W)) := (hp.alloc (.cells #[V] 60)).alloc (.cells (msOf W).cells 79)
  have hst0 : StIn (boxes w V (msOf W)) (w.heap.size + 1) (msOf W) := ⟨heap_alloc2_new _ _ _, ok⟩
  have hc0 : (boxes w V (msOf W)).cell? ⟨w.heap.size, 0, none⟩ = some V := cellB (heap_alloc2_old _ _ _) rfl
  have hBw : Below w.heap.size w (boxes w V (msOf W)) := (two_new (Below.refl _ _)).2.2.1
  have HIn : Hid (∀ w' t, ProgIn w' B V (progL W) → t < W.prog.length → Calls Tryd.prog 53 #[.agg #[V], .agg (msOf W).cells, .int .i64 (t : Int)] w' fun e w'' => e = .returned (.bool (ringF W t W.prog.length t)) ∧ Below w'.heap.size w' w'') := fun w' t hp' ht => inRing_any V W I w' B hp' t ht
  have HTh : Hid (∀ w', ProgIn w' B V (progL W) → Calls Tryd.prog 52 #[.agg #[V]] w' fun e w'' => e = .returned (.int .i64 (W.prog.length : Int)) ∧ Below w'.heap.size w' w'') := fun w' hp' => by
    rw [← hpl]; exact Threads_any V (progL W) w' B hp'
  have n5 := G.n5
  have HRT : Hid (∀ t, t < W.prog.length → ringF W t W.prog.length t = true → ringW W = true) := fun t ht h => List.any_eq_true.2 ⟨t, List.mem_range.2 ht, h⟩
  have HRF : Hid ((∀ t, t < W.prog.length → ringF W t W.prog.length t = false) → ringW W = false) := fun h => by
    rw [Bool.eq_false_iff]
    intro hh
    obtain ⟨t, ht, h2⟩ := List.any_eq_true.1 hh
    rw [h t (List.mem_range.1 ht)] at h2
    cases h2
  generalize msOf W = sW at *
  generalize ringW W = res at *
  clear hp G hpl I
  go_enter Tryd.func37, Tryd.ntmps37
  go_wp2
  go_loopw [5] (fun y wr => ∃ t : Nat, t ≤ W.prog.length ∧ y = .int .i64 (t : Int) ∧ Hid (∀ u, u < t → ringF W u W.prog.length u = false) ∧ Below (boxes w V sW).heap.size (boxes w V sW) wr) (fun y _ => W.prog.length - (intOf y).toNat)
  case atStart => exact ⟨0, Nat.zero_le _, rfl, (fun u hu => absurd hu (by omega)), Below.refl _ _⟩
  case round =>
    obtain ⟨t, ht, rfl, HN, hB⟩ := hrel
    have hsr := hst0.below hB
    have p0 := cell_later hB hc0
    have hT := HTh.out wr (HP.out.below hB)
    have hBr := hBw.trans (hB.mono hBw.size)
    by_cases htl : t < W.prog.length
    · have tl : (t : Int) < (W.prog.length : Int) := by omega
      have hK := fun w' hw => HIn.out w' t ((HP.out.below hB).below (w' := w') hw) htl
      cases hv : ringF W t W.prog.length t with
      | true =>
        have hr := HRT.out t htl hv
        subst hr
        rw [hv] at hK
        go_wp2_with (first
          | (go_at_call 52; refine hT.mono ?_; rintro e w1 ⟨rfl, hb1⟩; have p1 := cell_later hb1 p0; have hld := (hsr.below hb1).loadS)
          | (go_at_call 53; refine (hK _ hb1).mono ?_; rintro e w2 ⟨rfl, hb2⟩))
        go_ret
        have hb12 := hb1.trans (hb2.mono hb1.size)
        exact ⟨rfl, hBr.trans (hb12.mono hBr.size)⟩
      | false =>
        rw [hv] at hK
        have HN2 : Hid (∀ u, u < t + 1 → ringF W u W.prog.length u = false) := fun u hu => by
          by_cases he : u = t
          · rw [he]; exact hv
          · exact HN.out u (by omega)
        go_wp2_with (first
          | (go_at_call 52; refine hT.mono ?_; rintro e w1 ⟨rfl, hb1⟩; have p1 := cell_later hb1 p0; have hld := (hsr.below hb1).loadS)
          | (go_at_call 53; refine (hK _ hb1).mono ?_; rintro e w2 ⟨rfl, hb2⟩))
        go_roundw
        case rel => exact ⟨t + 1, by omega, by go_num, HN2, hB.trans ((hb1.trans (hb2.mono hb1.size)).mono hB.size)⟩
        case measure => (simp [intOf] <;> omega)
    · have tl : ¬ (t : Int) < (W.prog.length : Int) := by omega
      have hr := HRF.out fun u hu => HN.out u (by omega)
      subst hr
      go_wp2_with (first | (go_at_call 52; refine hT.mono ?_; rintro e w1 ⟨rfl, hb1⟩))
      go_ret
      exact ⟨rfl, hBr.trans (hb1.mono hBr.size)⟩
end Go.Proofs.YtdfndcbakcmgiabDoor
namespace Go.Proofs.YtdfndcbakcmgiabDoor
open Go.RowKit

/-! Two states compared. -/
def eqSt (x y : Value) : Sem Value := binOp .eql 79 x y
theorem eqSt_fold (x y : Value) : binOp .eql 79 x y = eqSt x y := rfl
theorem part_one (w : World) (t : TypeId) (ht : (isAgg t).run Tryd.prog w = .ok false w) (cs : Array Value) (j : Nat) (v : Value) (h : cs[j]? = some v) : (part t cs j).run Tryd.prog w = .ok v w := by
  simp [part, Sem.run_bind, ht, h]
theorem aggB (w : World) : (isAgg 4).run Tryd.prog w = .ok false w := by
  unfold isAgg
  rw [Sem.run_bind, run_underlying Tryd.underlying4 w]
  rfl
theorem aggI (w : World) : (isAgg 3).run Tryd.prog w = .ok false w := by
  unfold isAgg
  rw [Sem.run_bind, run_underlying Tryd.underlying3 w]
  rfl
theorem items_bool (d : Nat) (w : World) (xs ys : Array Value) : ∀ (is : List Nat), (∀ i ∈ is, ∃ a b : Bool, xs[i]? = some (.bool a) ∧ ys[i]? = some (.bool b)) →
    ∃ r : Bool, (Op.eqItems (d + 1) 4 1 xs ys is).run Tryd.prog w = .ok r w ∧ (r = true ↔ ∀ i ∈ is, xs[i]? = ys[i]?)
  | [], _ => ⟨true, by simp [Op.eqItems], by simp⟩
  | i :: is, h => by
    obtain ⟨a, b, h1, h2⟩ := h i (List.mem_cons_self ..)
    obtain ⟨r, hr, hiff⟩ := items_bool d w xs ys is (fun x hx => h x (List.mem_cons_of_mem _ hx))
    have p1 := part_one w _ (aggB w) xs (i * 1) _ (by rw [Nat.mul_one]; exact h1)
    have p2 := part_one w _ (aggB w) ys (i * 1) _ (by rw [Nat.mul_one]; exact h2)
    have p3 := run_equalIn_bool' (P := Tryd.prog) w d 4 a b Tryd.underlying4
    simp only [Op.eqItems, Sem.run_bind, p1, p2, p3, Result.andThen_ok]
    by_cases he : a = b
    · refine ⟨r, by simpa [he] using hr, ?_⟩
      rw [hiff]
      simp [h1, h2, he]
    · refine ⟨false, by simp [he], ?_⟩
      simp [h1, h2, he]
theorem items_int (d : Nat) (w : World) (xs ys : Array Value) : ∀ (is : List Nat), (∀ i ∈ is, ∃ a b : Int, xs[i]? = some (.int .i64 a) ∧ ys[i]? = some (.int .i64 b)) →
    ∃ r : Bool, (Op.eqItems (d + 1) 3 1 xs ys is).run Tryd.prog w = .ok r w ∧ (r = true ↔ ∀ i ∈ is, xs[i]? = ys[i]?)
  | [], _ => ⟨true, by simp [Op.eqItems], by simp⟩
  | i :: is, h => by
    obtain ⟨a, b, h1, h2⟩ := h i (List.mem_cons_self ..)
    obtain ⟨r, hr, hiff⟩ := items_int d w xs ys is (fun x hx => h x (List.mem_cons_of_mem _ hx))
    have p1 := part_one w _ (aggI w) xs (i * 1) _ (by rw [Nat.mul_one]; exact h1)
    have p2 := part_one w _ (aggI w) ys (i * 1) _ (by rw [Nat.mul_one]; exact h2)
    have p3 := run_equalIn_int (P := Tryd.prog) w d 3 .i64 .i64 a b Tryd.underlying3
    simp only [Op.eqItems, Sem.run_bind, p1, p2, p3, Result.andThen_ok]
    by_cases he : a = b
    · refine ⟨r, by simpa [he] using hr, ?_⟩
      rw [hiff]
      simp [h1, h2, he]
    · refine ⟨false, by simp [he], ?_⟩
      simp [h1, h2, he]
theorem part_arr (w : World) (t e : TypeId) (n : Nat) (hu : Tryd.prog.underlying t = some (.array n e)) (hs : (Tryd.prog.info? t).map (·.size) = some n) (cs : Array Value) (off : Nat) : (part t cs off).run Tryd.prog w = .ok (.agg (cs.extract off (off + n))) w := by
  have h1 : (isAgg t).run Tryd.prog w = .ok true w := by
    unfold isAgg
    rw [Sem.run_bind, run_underlying hu w]
    rfl
  obtain ⟨i, hi, hi2⟩ := Option.map_eq_some_iff.1 hs
  have h2 := run_sizeOf (P := Tryd.prog) w hi
  have h3 : Tryd.prog.cellsOf t = n := by rw [Program.cellsOf, hi]; simpa using hi2
  simp only [part, Sem.run_bind, h1, Result.andThen_ok, if_true, h2, h3]
  rfl
theorem ownI_inj {a b : Option Nat} (h : ownI a = ownI b) : a = b := by
  cases a <;> cases b <;> simp only [ownI] at h <;> first | rfl | omega | (congr 1; omega)
theorem ms_ext {a b : MS} (oka : a.Ok) (okb : b.Ok) (h : ∀ j, j < 22 → a.cells[j]? = b.cells[j]?) : a = b := by
  have e1 : a.st = b.st := by
    apply List.ext_getElem?
    intro t
    by_cases ht : t < 5
    · obtain ⟨x, hx⟩ := get_some a.st t (by rw [oka.n1]; exact ht)
      obtain ⟨y, hy⟩ := get_some b.st t (by rw [okb.n1]; exact ht)
      have := h t (by omega)
      rw [MS.get_st hx, MS.get_st hy] at this
      rw [hx, hy]; simpa using this
    · rw [List.getElem?_eq_none (by rw [oka.n1]; omega), List.getElem?_eq_none (by rw [okb.n1]; omega)]
  have e2 : a.pl = b.pl := by
    apply List.ext_getElem?
    intro t
    by_cases ht : t < 5
    · obtain ⟨x, hx⟩ := get_some a.pl t (by rw [oka.n2]; exact ht)
      obtain ⟨y, hy⟩ := get_some b.pl t (by rw [okb.n2]; exact ht)
      have := h (5 + t) (by omega)
      rw [MS.get_pl oka hx, MS.get_pl okb hy] at this
      rw [hx, hy]
      simp only [Option.some.injEq, Value.int.injEq, true_and] at this
      congr 1; omega
    · rw [List.getElem?_eq_none (by rw [oka.n2]; omega), List.getElem?_eq_none (by rw [okb.n2]; omega)]
  have e3 : a.ow = b.ow := by
    apply List.ext_getElem?
    intro t
    by_cases ht : t < 6
    · obtain ⟨x, hx⟩ := get_some a.ow t (by rw [oka.n3]; exact ht)
      obtain ⟨y, hy⟩ := get_some b.ow t (by rw [okb.n3]; exact ht)
      have := h (10 + t) (by omega)
      rw [MS.get_ow oka hx, MS.get_ow okb hy] at this
      rw [hx, hy]
      simp only [Option.some.injEq, Value.int.injEq, true_and] at this
      rw [ownI_inj this]
    · rw [List.getElem?_eq_none (by rw [oka.n3]; omega), List.getElem?_eq_none (by rw [okb.n3]; omega)]
  have e4 : a.fl = b.fl := by
    apply List.ext_getElem?
    intro t
    by_cases ht : t < 6
    · obtain ⟨x, hx⟩ := get_some a.fl t (by rw [oka.n4]; exact ht)
      obtain ⟨y, hy⟩ := get_some b.fl t (by rw [okb.n4]; exact ht)
      have := h (16 + t) (by omega)
      rw [MS.get_fl oka hx, MS.get_fl okb hy] at this
      rw [hx, hy]; simpa using this
    · rw [List.getElem?_eq_none (by rw [oka.n4]; omega), List.getElem?_eq_none (by rw [okb.n4]; omega)]
  cases a; cases b
  simp only at e1 e2 e3 e4
  subst e1 e2 e3 e4
  rfl
theorem ext_get (cs : Array Value) (off n i : Nat) (hi : i < n) (hs : off + n ≤ cs.size) : (cs.extract off (off + n))[i]? = cs[off + i]? := by
  rw [Array.getElem?_extract]
  rw [if_pos (by omega)]
theorem szB5 : (Tryd.prog.info? 74).map (·.size) = some 5 := by kernel_rfl
theorem szI5 : (Tryd.prog.info? 75).map (·.size) = some 5 := by kernel_rfl
theorem szI6 : (Tryd.prog.info? 76).map (·.size) = some 6 := by kernel_rfl
theorem szB6 : (Tryd.prog.info? 77).map (·.size) = some 6 := by kernel_rfl
theorem stoodT : Tryd.prog.stoodInHeld 79 = false := by kernel_rfl
theorem guardT : Tryd.prog.eqGuardType Tryd.prog.depth 79 = false := by kernel_rfl
theorem fieldsT : Tryd.prog.underlying 79 = some (.struct (Tryd.prog.fieldsOf 79)) := by
  rw [Program.fieldsOf, Tryd.underlying79]
theorem arr_bool (d : Nat) (w : World) (t : TypeId) (n : Nat) (hu : Tryd.prog.underlying t = some (.array n 4)) (xs ys : Array Value) (h : ∀ i, i < n → ∃ a b : Bool, xs[i]? = some (.bool a) ∧ ys[i]? = some (.bool b)) :
    ∃ r : Bool, (Op.equalIn (d + 2) t (.agg xs) (.agg ys)).run Tryd.prog w = .ok r w ∧ (r = true ↔ ∀ i, i < n → xs[i]? = ys[i]?) := by
  obtain ⟨i, hi, _, hs, _⟩ := info_split infoBool
  have hc : Tryd.prog.cellsOf 4 = 1 := by rw [Program.cellsOf, hi]; simp [hs]
  obtain ⟨r, hr, hiff⟩ := items_bool d w xs ys (List.range n) (fun x hx => h x (List.mem_range.1 hx))
  have hE := run_equalIn_array (P := Tryd.prog) w (d + 1) xs ys hu hi
  rw [hc, hr] at hE
  exact ⟨r, hE, hiff.trans ⟨fun h i hi => h i (List.mem_range.2 hi), fun h i hi => h i (List.mem_range.1 hi)⟩⟩
theorem arr_int (d : Nat) (w : World) (t : TypeId) (n : Nat) (hu : Tryd.prog.underlying t = some (.array n 3)) (xs ys : Array Value) (h : ∀ i, i < n → ∃ a b : Int, xs[i]? = some (.int .i64 a) ∧ ys[i]? = some (.int .i64 b)) :
    ∃ r : Bool, (Op.equalIn (d + 2) t (.agg xs) (.agg ys)).run Tryd.prog w = .ok r w ∧ (r = true ↔ ∀ i, i < n → xs[i]? = ys[i]?) := by
  obtain ⟨i, hi, _, hs, _⟩ := info_split infoInt
  have hc : Tryd.prog.cellsOf 3 = 1 := by rw [Program.cellsOf, hi]; simp [hs]
  obtain ⟨r, hr, hiff⟩ := items_int d w xs ys (List.range n) (fun x hx => h x (List.mem_range.1 hx))
  have hE := run_equalIn_array (P := Tryd.prog) w (d + 1) xs ys hu hi
  rw [hc, hr] at hE
  exact ⟨r, hE, hiff.trans ⟨fun h i hi => h i (List.mem_range.2 hi), fun h i hi => h i (List.mem_range.1 hi)⟩⟩
theorem eqSt_run (w : World) (a b : MS) (oka : a.Ok) (okb : b.Ok) : ∃ r : Bool, (eqSt (.agg a.cells) (.agg b.cells)).run Tryd.prog w = .ok (.bool r) w ∧ (r = true ↔ a = b) := by
  have sa := MS.cells_size oka
  have sb := MS.cells_size okb
  obtain ⟨r1, h1, i1⟩ := arr_bool 9997 w 74 5 Tryd.underlying74 (a.cells.extract 0 (0 + 5)) (b.cells.extract 0 (0 + 5)) (fun i hi => by
    obtain ⟨x, hx⟩ := get_some a.st i (by rw [oka.n1]; exact hi)
    obtain ⟨y, hy⟩ := get_some b.st i (by rw [okb.n1]; exact hi)
    exact ⟨x, y, by rw [ext_get _ _ _ _ hi (by omega), Nat.zero_add]; exact MS.get_st hx, by rw [ext_get _ _ _ _ hi (by omega), Nat.zero_add]; exact MS.get_st hy⟩)
  obtain ⟨r2, h2, i2⟩ := arr_int 9997 w 75 5 Tryd.underlying75 (a.cells.extract 5 (5 + 5)) (b.cells.extract 5 (5 + 5)) (fun i hi => by
    obtain ⟨x, hx⟩ := get_some a.pl i (by rw [oka.n2]; exact hi)
    obtain ⟨y, hy⟩ := get_some b.pl i (by rw [okb.n2]; exact hi)
    exact ⟨x, y, by rw [ext_get _ _ _ _ hi (by omega)]; exact MS.get_pl oka hx, by rw [ext_get _ _ _ _ hi (by omega)]; exact MS.get_pl okb hy⟩)
  obtain ⟨r3, h3, i3⟩ := arr_int 9997 w 76 6 Tryd.underlying76 (a.cells.extract 10 (10 + 6)) (b.cells.extract 10 (10 + 6)) (fun i hi => by
    obtain ⟨x, hx⟩ := get_some a.ow i (by rw [oka.n3]; exact hi)
    obtain ⟨y, hy⟩ := get_some b.ow i (by rw [okb.n3]; exact hi)
    exact ⟨_, _, by rw [ext_get _ _ _ _ hi (by omega)]; exact MS.get_ow oka hx, by rw [ext_get _ _ _ _ hi (by omega)]; exact MS.get_ow okb hy⟩)
  obtain ⟨r4, h4, i4⟩ := arr_bool 9997 w 77 6 Tryd.underlying77 (a.cells.extract 16 (16 + 6)) (b.cells.extract 16 (16 + 6)) (fun i hi => by
    obtain ⟨x, hx⟩ := get_some a.fl i (by rw [oka.n4]; exact hi)
    obtain ⟨y, hy⟩ := get_some b.fl i (by rw [okb.n4]; exact hi)
    exact ⟨x, y, by rw [ext_get _ _ _ _ hi (by omega)]; exact MS.get_fl oka hx, by rw [ext_get _ _ _ _ hi (by omega)]; exact MS.get_fl okb hy⟩)
  have p1 := fun cs => part_arr w 74 _ 5 Tryd.underlying74 szB5 cs 0
  have p2 := fun cs => part_arr w 75 _ 5 Tryd.underlying75 szI5 cs 5
  have p3 := fun cs => part_arr w 76 _ 6 Tryd.underlying76 szI6 cs 10
  have p4 := fun cs => part_arr w 77 _ 6 Tryd.underlying77 szB6 cs 16
  have n1 : "started" ≠ "_" := by decide
  have n2 : "places" ≠ "_" := by decide
  have n3 : "owners" ≠ "_" := by decide
  have n4 : "flags" ≠ "_" := by decide
  refine ⟨r1 && (r2 && (r3 && r4)), ?_, ?_⟩
  · rw [eqSt, run_eql_struct, run_equalIn_struct w 9999 _ _ _ fieldsT stoodT]
    rw [Program.fieldsOf, Tryd.underlying79]
    simp only [Op.eqFields, if_pos n1, if_pos n2, if_pos n3, if_pos n4, Sem.run_bind, Result.andThen_ok, p1, h1]
    cases r1 <;> cases r2 <;> cases r3 <;> cases r4 <;> simp [p2, p3, p4, h2, h3, h4]
  · simp only [Bool.and_eq_true, i1, i2, i3, i4]
    constructor
    · rintro ⟨q1, q2, q3, q4⟩
      refine ms_ext oka okb fun j hj => ?_
      rcases Nat.lt_or_ge j 5 with hl | hl
      · have := q1 j hl
        rwa [ext_get _ _ _ _ hl (by omega), ext_get _ _ _ _ hl (by omega), Nat.zero_add] at this
      · rcases Nat.lt_or_ge j 10 with hl2 | hl2
        · have := q2 (j - 5) (by omega)
          rwa [ext_get _ _ _ _ (by omega) (by omega), ext_get _ _ _ _ (by omega) (by omega), show 5 + (j - 5) = j by omega] at this
        · rcases Nat.lt_or_ge j 16 with hl3 | hl3
          · have := q3 (j - 10) (by omega)
            rwa [ext_get _ _ _ _ (by omega) (by omega), ext_get _ _ _ _ (by omega) (by omega), show 10 + (j - 10) = j by omega] at this
          · have := q4 (j - 16) (by omega)
            rwa [ext_get _ _ _ _ (by omega) (by omega), ext_get _ _ _ _ (by omega) (by omega), show 16 + (j - 16) = j by omega] at this
    · intro e
      subst e
      exact ⟨fun _ _ => rfl, fun _ _ => rfl, fun _ _ => rfl, fun _ _ => rfl⟩
end Go.Proofs.YtdfndcbakcmgiabDoor
namespace Go.Proofs.YtdfndcbakcmgiabDoor
open Go.RowKit

/-! The line of states. -/
abbrev Sp := MS × List Nat
def spC (x : Sp) : Array Value := (x.1.list ++ [Value.string (digS x.2)]).toArray
def stL (Q : List Sp) : List Value := Q.flatMap fun x => (spC x).toList
theorem spC_size {x : Sp} (ok : x.1.Ok) : (spC x).size = 23 := by
  have := MS.cells_size ok
  simp only [MS.cells, List.size_toArray] at this
  simp [spC, this]
theorem spC_st {x : Sp} {i : Nat} {v : Value} (h : x.1.cells.toList[i]? = some v) : (spC x).toList[i]? = some v := by
  simp only [spC, MS.cells] at h ⊢
  rw [List.getElem?_append_left (List.getElem?_eq_some_iff.1 h).1]
  exact h
theorem spC_sc {x : Sp} (ok : x.1.Ok) : (spC x).toList[22]? = some (.string (digS x.2)) := by
  have := MS.cells_size ok
  simp only [MS.cells, List.size_toArray] at this
  simp only [spC]
  rw [List.getElem?_append_right (by omega), this]; rfl
theorem stL_at : ∀ (Q : List Sp), (∀ x ∈ Q, x.1.Ok) → ∀ (k : Nat) (x : Sp), Q[k]? = some x → ∀ i v, (spC x).toList[i]? = some v → (stL Q)[k * 23 + i]? = some v
  | [], _, k, x, h, _, _, _ => by simp at h
  | a :: Q, ho, 0, x, h, i, v, hv => by
    simp only [List.getElem?_cons_zero, Option.some.injEq] at h
    subst h
    rw [stL, List.flatMap_cons, Nat.zero_mul, Nat.zero_add, List.getElem?_append_left (List.getElem?_eq_some_iff.1 hv).1]
    exact hv
  | a :: Q, ho, k + 1, x, h, i, v, hv => by
    have := stL_at Q (fun y hy => ho y (List.mem_cons_of_mem _ hy)) k x (by simpa using h) i v hv
    have h23 : (spC a).toList.length = 23 := by rw [Array.length_toList]; exact spC_size (ho a (List.mem_cons_self ..))
    rw [stL, List.flatMap_cons, List.getElem?_append_right (by omega), h23, show (k + 1) * 23 + i - 23 = k * 23 + i by omega]
    exact this
theorem info22s : (Tryd.prog.info? 79).map (·.size) = some 22 := info22
theorem loadS_mid {w : World} {g o : Nat} {s : MS} (ok : s.Ok) (h : ∀ i v, s.cells.toList[i]? = some v → w.cell? ⟨g, o + i, none⟩ = some v) : (loadS (.pointer (some ⟨g, o, none⟩))).run Tryd.prog w = .ok (.agg s.cells) w := by
  have h22 : s.cells.toList.length = 22 := by rw [Array.length_toList]; exact MS.cells_size ok
  have := run_loadAt_mid (P := Tryd.prog) w g o 79 s.cells.toList _ h Tryd.underlying79 rfl (by rw [h22]; exact info22)
  simpa [loadS] using this

/-- The line lies in block f, its states above. -/
structure LI (w0 w : World) (f : Nat) (v : Value) (Q : List Sp) : Prop where
  below : Below f w0 w
  top : f < w.heap.size
  blk : w.heap[f]? = some (.cells #[v] 102)
  row : w.ownsRow (f + 1) 106 23 v Q.length (stL Q)
  ok : ∀ x ∈ Q, x.1.Ok
theorem ownsRow_later {w w' : World} {B : Nat} {e : TypeId} {size n : Nat} {v : Value} {xs : List Value} (h : w.ownsRow B e size v n xs) (hb : Below w.heap.size w w') : w'.ownsRow B e size v n xs :=
  h.kept (grownBy_of_below hb) (by cases hv : v.ownBlock <;> simp)
theorem LI.later {w0 w w' : World} {f : Nat} {v : Value} {Q : List Sp} (h : LI w0 w f v Q) (hb : Below w.heap.size w w') : LI w0 w' f v Q :=
  ⟨h.below.trans (hb.mono (Nat.le_of_lt h.top)), Nat.lt_of_lt_of_le h.top hb.size, by rw [hb.block f h.top]; exact h.blk, ownsRow_later h.row hb, h.ok⟩
theorem LI.form {w0 w : World} {f : Nat} {v : Value} {Q : List Sp} (h : LI w0 w f v Q) : ∃ a c, v = .slice a Q.length c ∧ ∀ k x, Q[k]? = some x → ∃ g, a = some ⟨g, 0, none⟩ ∧ ∀ i u, (spC x).toList[i]? = some u → w.cell? ⟨g, k * 23 + i, none⟩ = some u := by
  rcases h.row.2 with ⟨h1, h2⟩ | ⟨g, cap, cur, h1, _⟩
  · refine ⟨none, 0, by rw [h1, h2], fun k x hx => ?_⟩
    have := (List.getElem?_eq_some_iff.1 hx).1
    omega
  · subst h1
    refine ⟨_, cap, rfl, fun k x hx => ⟨g, rfl, fun i u hu => ?_⟩⟩
    have hk := (List.getElem?_eq_some_iff.1 hx).1
    have hi : i < 23 := by
      have := (List.getElem?_eq_some_iff.1 hu).1
      rw [Array.length_toList, spC_size (h.ok x (List.mem_of_getElem? hx))] at this
      exact this
    rw [h.row.cellAt (k * 23 + i) (by omega)]
    exact stL_at Q h.ok k x hx i u hu
/-- What a call on the line leaves as it was. -/
structure Kq (f : Nat) (v v' : Value) (w w' : World) : Prop where
  size : w.heap.size ≤ w'.heap.size
  blk : ∀ b, b < w.heap.size → b ≠ f → some b ≠ v.ownBlock → w'.heap[b]? = w.heap[b]?
  own : Fresh w v v'
theorem Kq.ofBelow {f : Nat} {v : Value} {w w' : World} (h : Below w.heap.size w w') : Kq f v v w w' := ⟨h.size, fun b hb _ _ => h.block b hb, .inl rfl⟩
theorem Kq.trans {f : Nat} {v v1 v2 : Value} {w w1 w2 : World} (h : Kq f v v1 w w1) (k : Kq f v1 v2 w1 w2) : Kq f v v2 w w2 := by
  have hs := h.size
  refine ⟨Nat.le_trans h.size k.size, fun b hb hf hv => ?_, ?_⟩
  · rw [k.blk b (by omega) hf ?_, h.blk b hb hf hv]
    rcases h.own with e | ⟨g, e, hg⟩
    · rw [e]; exact hv
    · rw [e]; intro hh; cases hh; omega
  · rcases k.own with e | ⟨g, e, hg⟩
    · rcases h.own with e2 | ⟨g, e2, hg⟩
      · exact .inl (e.trans e2)
      · exact .inr ⟨g, e.trans e2, hg⟩
    · exact .inr ⟨g, e, by omega⟩

theorem eqSt_all (a b : MS) (oka : a.Ok) (okb : b.Ok) : ∃ r : Bool, (∀ w, (eqSt (.agg a.cells) (.agg b.cells)).run Tryd.prog w = .ok (.bool r) w) ∧ (r = true ↔ a = b) := by
  obtain ⟨r, _, h2⟩ := eqSt_run { heap := #[], tape := default, drawn := default, os := default, output := default } a b oka okb
  refine ⟨r, fun w => ?_, h2⟩
  obtain ⟨r', h1', h2'⟩ := eqSt_run w a b oka okb
  rw [h1', show r' = r from Bool.eq_iff_iff.2 (h2'.trans h2.symm)]
attribute [local go_sem ↓] loadS_fold eqSt_fold
attribute [local go_sem] guardT
set_option maxRecDepth 100000 in
set_option maxHeartbeats 1000000 in
theorem has_any (f : Nat) (w0 w : World) (v : Value) (Q : List Sp) (hq : Q.length ≤ 10000) (h : LI w0 w f v Q) (s : MS) (ok : s.Ok) (r : Bool) (hr : r = true ↔ ∃ x ∈ Q, x.1 = s) :
    Calls Tryd.prog 51 #[.pointer (some ⟨f, 0, none⟩), .agg s.cells] w fun e w' => e = .returned (.bool r) ∧ Below w.heap.size w w' := by
  have hB0 : Below w.heap.size w (w.alloc (.cells s.cells 79)) := (Below.refl _ _).alloc (Nat.le_refl _) _
  have hst : StIn (w.alloc (.cells s.cells 79)) w.heap.size s := ⟨heap_alloc_new _ _, ok⟩
  have h1 := h.later hB0
  obtain ⟨a, c, rfl, hcell⟩ := h1.form
  have f0 : (w.alloc (.cells s.cells 79)).cell? ⟨f, 0, none⟩ = some (.slice a Q.length c) := cellB h1.blk rfl
  have HC : Hid (∀ k x, Q[k]? = some x → ∃ g, a = some ⟨g, 0, none⟩ ∧ ∀ w', Below (w.alloc (.cells s.cells 79)).heap.size (w.alloc (.cells s.cells 79)) w' → (loadS (.pointer (some ⟨g, k * 23, none⟩))).run Tryd.prog w' = .ok (.agg x.1.cells) w') := fun k x hx => by
    obtain ⟨g, e, hg⟩ := hcell k x hx
    have hxo := h.ok x (List.mem_of_getElem? hx)
    exact ⟨g, e, fun w' hw => loadS_mid hxo fun i u hu => cell_later hw (hg i u (spC_st hu))⟩
  have HOk : Hid (∀ x ∈ Q, x.1.Ok) := h.ok
  have HRT : Hid (∀ x ∈ Q, x.1 = s → r = true) := fun x hx e => hr.2 ⟨x, hx, e⟩
  have HRF : Hid ((∀ x ∈ Q, x.1 ≠ s) → r = false) := fun hh => by
    cases hc : r with
    | false => rfl
    | true => obtain ⟨x, hx, e⟩ := hr.1 hc; exact absurd e (hh x hx)
  generalize hX : w.alloc (.cells s.cells 79) = X at *
  have HX := show Hid _ from hX
  clear hX h h1 hcell hr
  go_enter Tryd.func51, Tryd.ntmps51
  go_upto_region 1 with fail
  rw [HX.out]
  go_wp2
  go_loopw [5] (fun y wr => ∃ n : Nat, n ≤ Q.length ∧ y = .int .i64 ((n : Int) - 1) ∧ Hid (∀ i x, n ≤ i → Q[i]? = some x → x.1 ≠ s) ∧ Below X.heap.size X wr) (fun y _ => (intOf y + 1).toNat)
  case atStart => exact ⟨Q.length, Nat.le_refl _, rfl, (fun i x h1 h2 => by have := (List.getElem?_eq_some_iff.1 h2).1; omega), Below.refl _ _⟩
  case round =>
    obtain ⟨n, hn, rfl, HN, hBr⟩ := hrel
    have hBw := hB0.trans (hBr.mono hB0.size)
    cases n with
    | zero =>
      have hrf := HRF.out fun x hx => by
        obtain ⟨i, hi⟩ := List.mem_iff_getElem?.1 hx
        exact HN.out i x (Nat.zero_le _) hi
      subst hrf
      go_wp2
      go_ret
      exact ⟨rfl, hBw⟩
    | succ n =>
      have hnI : ((n + 1 : Nat) : Int) - 1 = (n : Int) := by omega
      rw [hnI]
      obtain ⟨x, hx⟩ := get_some Q n (by omega)
      obtain ⟨g, e1, hld⟩ := HC.out n x hx
      subst e1
      have HL : Hid (∀ w', Below wr.heap.size wr w' → (loadS (.pointer (some ⟨g, n * 23, none⟩))).run Tryd.prog w' = .ok (.agg x.1.cells) w' ∧ (loadS (.pointer (some ⟨w.heap.size, 0, none⟩))).run Tryd.prog w' = .ok (.agg s.cells) w') := fun w' hw => ⟨hld w' (hBr.trans (hw.mono hBr.size)), ((hst.below hBr).below hw).loadS⟩
      have f0r := cell_later hBr f0
      have n0 : (0 : Int) ≤ (n : Int) := by omega
      have nl : (n : Int) < (Q.length : Int) := by omega
      obtain ⟨r2, hr2, hiff⟩ := eqSt_all x.1 s (HOk.out x (List.mem_of_getElem? hx)) ok
      generalize hxc : x.1.cells = xc at *
      generalize hsc : s.cells = sc at *
      clear hxc hsc
      have HQx := show Hid (x ∈ Q) from List.mem_of_getElem? hx
      have HNx : Hid (x.1 ≠ s → ∀ i y, n ≤ i → Q[i]? = some y → y.1 ≠ s) := fun hne i y h1 h2 => by
        by_cases he : i = n
        · subst he; rw [hx] at h2; cases h2; exact hne
        · exact HN.out i y (by omega) h2
      have HIF := show Hid _ from hiff
      clear hx hld HN hiff
      cases r2 with
      | true =>
        have hrt := HRT.out x HQx.out (HIF.out.1 rfl)
        subst hrt
        go_upto_region 4 with fail
        go_region_held3 (fun w' => w'.cell? ⟨f, 0, none⟩ = some (.slice (some ⟨g, 0, none⟩) Q.length c) ∧ (loadS (.pointer (some ⟨g, n * 23, none⟩))).run Tryd.prog w' = .ok (.agg xc) w' ∧ (loadS (.pointer (some ⟨w.heap.size, 0, none⟩))).run Tryd.prog w' = .ok (.agg sc) w')
          (first | (refine ⟨cell_later ?_ f0r, (HL.out _ ?_).1, (HL.out _ ?_).2⟩ <;> first | exact Below.refl _ _ | exact (Below.refl _ _).drew) | go_keep)
          (fail)
        go_wp2
        go_ret
        exact ⟨rfl, hBw.drew⟩
      | false =>
        have HN2 : Hid (∀ i y, n ≤ i → Q[i]? = some y → y.1 ≠ s) := HNx.out fun e => by have := HIF.out.2 e; cases this
        go_upto_region 4 with fail
        go_region_held3 (fun w' => w'.cell? ⟨f, 0, none⟩ = some (.slice (some ⟨g, 0, none⟩) Q.length c) ∧ (loadS (.pointer (some ⟨g, n * 23, none⟩))).run Tryd.prog w' = .ok (.agg xc) w' ∧ (loadS (.pointer (some ⟨w.heap.size, 0, none⟩))).run Tryd.prog w' = .ok (.agg sc) w')
          (first | (refine ⟨cell_later ?_ f0r, (HL.out _ ?_).1, (HL.out _ ?_).2⟩ <;> first | exact Below.refl _ _ | exact (Below.refl _ _).drew) | go_keep)
          (fail)
        go_wp2
        go_roundw
        case rel => exact ⟨n, by omega, by go_num, HN2, hBr.drew⟩
        case measure => (simp [intOf] <;> omega)
end Go.Proofs.YtdfndcbakcmgiabDoor
namespace Go.Proofs.YtdfndcbakcmgiabDoor

/-! The text that tells states apart (pure). -/
/-- The locks of a thread, by their numbers. -/
def hldL (has : List (Option Nat)) (t : Nat) : List Nat := (List.range 6).filter fun k => decide (has[k]?.getD none = some t)
def segB (W : Wd) (t : Nat) : List Nat := (97 + W.place[t]?.getD 0) :: ((if W.born[t]?.getD false = true then [43] else []) ++ (hldL W.has t).map (97 + ·))
def keyB (W : Wd) : List Nat := (List.range W.prog.length).flatMap (fun t => segB W t ++ [59]) ++ ((List.range 6).filter fun k => W.set[k]?.getD false).map (117 + ·)
theorem split_at {c : Nat} : ∀ {A A' R R' : List Nat}, c ∉ A → c ∉ A' → A ++ c :: R = A' ++ c :: R' → A = A' ∧ R = R'
  | [], [], _, _, _, _, h => ⟨rfl, by simpa using h⟩
  | [], a :: A', R, R', _, h2, h => by
    simp only [List.nil_append, List.cons_append, List.cons.injEq] at h
    exact absurd (h.1 ▸ List.mem_cons_self ..) h2
  | a :: A, [], R, R', h1, _, h => by
    simp only [List.nil_append, List.cons_append, List.cons.injEq] at h
    exact absurd (h.1 ▸ List.mem_cons_self ..) h1
  | a :: A, b :: A', R, R', h1, h2, h => by
    simp only [List.cons_append, List.cons.injEq] at h
    obtain ⟨e, h⟩ := h
    obtain ⟨e1, e2⟩ := split_at (fun hm => h1 (List.mem_cons_of_mem _ hm)) (fun hm => h2 (List.mem_cons_of_mem _ hm)) h
    exact ⟨by rw [e, e1], e2⟩
theorem hldL_lt (has : List (Option Nat)) (t : Nat) : ∀ k ∈ hldL has t, k < 6 := fun _ hk => List.mem_range.1 (List.mem_filter.1 hk).1
theorem hldL_mem {has : List (Option Nat)} {t k : Nat} : k ∈ hldL has t ↔ k < 6 ∧ has[k]?.getD none = some t := by simp [hldL]
theorem seg_not (W : Wd) (t : Nat) : 59 ∉ segB W t := by
  intro h
  rw [segB, List.mem_cons, List.mem_append] at h
  rcases h with h | h | h
  · omega
  · split at h
    · simp at h
    · cases h
  · obtain ⟨k, _, e⟩ := List.mem_map.1 h
    omega
theorem map_add_inj {c : Nat} : ∀ {a b : List Nat}, a.map (c + ·) = b.map (c + ·) → a = b
  | [], [], _ => rfl
  | [], _ :: _, h => by simp at h
  | _ :: _, [], h => by simp at h
  | x :: a, y :: b, h => by
    simp only [List.map_cons, List.cons.injEq] at h
    rw [map_add_inj h.2, show x = y by omega]
theorem seg_inj {W V : Wd} {t : Nat} (h : segB W t = segB V t) : W.place[t]?.getD 0 = V.place[t]?.getD 0 ∧ W.born[t]?.getD false = V.born[t]?.getD false ∧ hldL W.has t = hldL V.has t := by
  rw [segB, segB, List.cons.injEq] at h
  obtain ⟨h1, h2⟩ := h
  refine ⟨by omega, ?_⟩
  cases hb : W.born[t]?.getD false with
  | true =>
    cases hb' : V.born[t]?.getD false with
    | true =>
      rw [hb, hb', if_pos rfl] at h2
      exact ⟨rfl, map_add_inj (List.append_cancel_left h2)⟩
    | false =>
      rw [hb, hb', if_pos rfl, if_neg (by decide), List.nil_append] at h2
      cases hh : hldL V.has t with
      | nil => rw [hh] at h2; simp at h2
      | cons k ks => rw [hh] at h2; simp at h2; omega
  | false =>
    cases hb' : V.born[t]?.getD false with
    | true =>
      rw [hb, hb', if_pos rfl, if_neg (by decide), List.nil_append] at h2
      cases hh : hldL W.has t with
      | nil => rw [hh] at h2; simp at h2
      | cons k ks => rw [hh] at h2; simp at h2; omega
    | false =>
      rw [hb, hb', if_neg (by decide), List.nil_append, List.nil_append] at h2
      exact ⟨rfl, map_add_inj h2⟩
theorem segs_inj (W V : Wd) (R R' : List Nat) : ∀ (n : Nat) (s : Nat), (List.range' s n).flatMap (fun t => segB W t ++ [59]) ++ R = (List.range' s n).flatMap (fun t => segB V t ++ [59]) ++ R' → (∀ t, s ≤ t → t < s + n → segB W t = segB V t) ∧ R = R'
  | 0, s, h => ⟨fun t h1 h2 => by omega, by simpa using h⟩
  | n + 1, s, h => by
    rw [List.range'_succ, List.flatMap_cons, List.flatMap_cons, List.append_assoc, List.append_assoc, List.append_assoc, List.append_assoc] at h
    obtain ⟨h1, h2⟩ := split_at (seg_not W s) (seg_not V s) (by simpa using h)
    obtain ⟨h3, h4⟩ := segs_inj W V R R' n (s + 1) h2
    refine ⟨fun t ht1 ht2 => ?_, h4⟩
    by_cases he : t = s
    · rw [he]; exact h1
    · exact h3 t (by omega) (by omega)
theorem key_ms {W V : Wd} (G : W.Good) (G' : V.Good) (hp : V.prog = W.prog) : keyB W = keyB V ↔ msOf W = msOf V := by
  constructor
  · intro h
    rw [keyB, keyB, hp, List.range_eq_range'] at h
    obtain ⟨h1, h2⟩ := segs_inj W V _ _ _ _ h
    have hs := fun t (ht : t < W.prog.length) => seg_inj (h1 t (Nat.zero_le _) (by omega))
    have e1 : W.born = V.born := by
      apply List.ext_getElem?
      intro t
      by_cases ht : t < W.prog.length
      · obtain ⟨a, ha⟩ := get_some W.born t (by rw [G.ok.nb]; exact ht)
        obtain ⟨b, hb⟩ := get_some V.born t (by rw [G'.ok.nb, hp]; exact ht)
        have := (hs t ht).2.1
        rw [ha, hb] at this ⊢
        simpa using this
      · rw [List.getElem?_eq_none (by rw [G.ok.nb]; omega), List.getElem?_eq_none (by rw [G'.ok.nb, hp]; omega)]
    have e2 : W.place = V.place := by
      apply List.ext_getElem?
      intro t
      by_cases ht : t < W.prog.length
      · obtain ⟨a, ha⟩ := get_some W.place t (by rw [G.ok.nl]; exact ht)
        obtain ⟨b, hb⟩ := get_some V.place t (by rw [G'.ok.nl, hp]; exact ht)
        have := (hs t ht).1
        rw [ha, hb] at this ⊢
        simpa using this
      · rw [List.getElem?_eq_none (by rw [G.ok.nl]; omega), List.getElem?_eq_none (by rw [G'.ok.nl, hp]; omega)]
    have e3 : W.has = V.has := by
      apply List.ext_getElem?
      intro k
      by_cases hk : k < 6
      · obtain ⟨a, ha⟩ := get_some W.has k (by rw [G.ok.nh]; exact hk)
        obtain ⟨b, hb⟩ := get_some V.has k (by rw [G'.ok.nh]; exact hk)
        rw [ha, hb]
        have key : ∀ t, t < W.prog.length → (a = some t ↔ b = some t) := fun t ht => by
          have h3 := (hs t ht).2.2
          have m1 : k ∈ hldL W.has t ↔ k ∈ hldL V.has t := by rw [h3]
          rw [hldL_mem, hldL_mem, ha, hb] at m1
          simpa [hk] using m1
        cases a with
        | none =>
          cases b with
          | none => rfl
          | some u =>
            have := G'.has k u hb
            rw [hp] at this
            have := (key u this).2 rfl
            cases this
        | some u => rw [(key u (G.has k u ha)).1 rfl]
      · rw [List.getElem?_eq_none (by rw [G.ok.nh]; omega), List.getElem?_eq_none (by rw [G'.ok.nh]; omega)]
    have e4 : W.set = V.set := by
      have h3 := map_add_inj h2
      apply List.ext_getElem?
      intro k
      by_cases hk : k < 6
      · obtain ⟨a, ha⟩ := get_some W.set k (by rw [G.ok.ns]; exact hk)
        obtain ⟨b, hb⟩ := get_some V.set k (by rw [G'.ok.ns]; exact hk)
        rw [ha, hb]
        have m1 : k ∈ (List.range 6).filter (fun k => W.set[k]?.getD false) ↔ k ∈ (List.range 6).filter (fun k => V.set[k]?.getD false) := by rw [h3]
        simp only [List.mem_filter, List.mem_range, hk, true_and, ha, hb, Option.getD_some] at m1
        congr 1
        exact Bool.eq_iff_iff.2 m1
      · rw [List.getElem?_eq_none (by rw [G.ok.ns]; omega), List.getElem?_eq_none (by rw [G'.ok.ns]; omega)]
    simp only [msOf, e1, e2, e3, e4, hp]
  · intro h
    simp only [msOf, MS.mk.injEq, hp] at h
    obtain ⟨h1, h2, h3, h4⟩ := h
    have e1 : W.born = V.born := List.append_cancel_right h1
    have e2 : W.place = V.place := List.append_cancel_right h2
    simp only [keyB, segB, hldL, e1, e2, h3, h4, hp]
end Go.Proofs.YtdfndcbakcmgiabDoor
namespace Go.Proofs.YtdfndcbakcmgiabDoor

/-! The search (pure): a line of states, each put there once. -/
structure Nd where
  W : Wd
  l : List Nat
noncomputable def putQ (Q : List Nd) (x : Nd) : List Nd := @ite _ (∃ y ∈ Q, msOf y.W = msOf x.W) (Classical.propDecidable _) Q (Q ++ [x])
noncomputable def kidQ (x : Nd) (Q : List Nd) (t : Nat) : List Nd := if stateOf x.W t = 1 then putQ Q ⟨moveT x.W t, x.l ++ [t]⟩ else Q
/-- With the moves of the threads from t on. -/
noncomputable def kidsF (x : Nd) : Nat → Nat → List Nd → List Nd
  | 0, _, Q => Q
  | d + 1, t, Q => kidsF x d (t + 1) (kidQ x Q t)
noncomputable def srch (b : Nat) : Nat → List Nd → Nat → List Nat × Int
  | 0, Q, _ => ([], if b < Q.length then 3 else 2)
  | f + 1, Q, k => match Q[k]? with
    | none => ([], 2)
    | some x => if ringW x.W = true then (x.l, 1) else srch b f (kidsF x x.W.prog.length 0 Q) (k + 1)
theorem putQ_yes {Q : List Nd} {x : Nd} (h : ∃ y ∈ Q, msOf y.W = msOf x.W) : putQ Q x = Q := by unfold putQ; exact if_pos h
theorem putQ_no {Q : List Nd} {x : Nd} (h : ¬ ∃ y ∈ Q, msOf y.W = msOf x.W) : putQ Q x = Q ++ [x] := by unfold putQ; exact if_neg h
theorem putQ_app (Q : List Nd) (x : Nd) : ∃ r, putQ Q x = Q ++ r ∧ r.length ≤ 1 ∧ ∀ y ∈ r, y = x := by
  by_cases h : ∃ y ∈ Q, msOf y.W = msOf x.W
  · exact ⟨[], by rw [putQ_yes h, List.append_nil], by simp, fun y hy => by cases hy⟩
  · exact ⟨[x], putQ_no h, by simp, fun y hy => List.mem_singleton.1 hy⟩
/-- What every state of the line is. -/
structure Nd.Ok (W0 : Wd) (x : Nd) : Prop where
  inv : x.W.Inv
  prog : x.W.prog = W0.prog
  go : goL W0 x.l = some x.W
  lt : ∀ t ∈ x.l, t < W0.prog.length
  len : x.W.log.length = x.l.length
theorem Nd.Ok.small {W0 : Wd} {x : Nd} (h : x.Ok W0) : x.l.length ≤ 60 := by rw [← h.len]; exact h.inv.small
theorem Nd.Ok.kid {W0 : Wd} {x : Nd} (h : x.Ok W0) {t : Nat} (ht : t < W0.prog.length) (hs : stateOf x.W t = 1) : Nd.Ok W0 ⟨moveT x.W t, x.l ++ [t]⟩ where
  inv := moveT_inv h.inv (by rw [h.prog]; exact ht) hs
  prog := by rw [moveT_prog]; exact h.prog
  go := by
    rw [goL_snoc, h.go]
    show (if t < x.W.prog.length ∧ stateOf x.W t = 1 then some (moveT x.W t) else none) = _
    rw [if_pos ⟨by rw [h.prog]; exact ht, hs⟩]
  lt := fun u hu => by
    rcases List.mem_append.1 hu with hu | hu
    · exact h.lt u hu
    · rw [List.mem_singleton.1 hu]; exact ht
  len := by rw [moveT_log, h.len, List.length_append]; rfl
theorem kidQ_app {W0 : Wd} {x : Nd} (hx : x.Ok W0) (Q : List Nd) {t : Nat} (ht : t < W0.prog.length) : ∃ r, kidQ x Q t = Q ++ r ∧ r.length ≤ 1 ∧ ∀ y ∈ r, y.Ok W0 := by
  unfold kidQ
  split
  · rename_i hs
    obtain ⟨r, h1, h2, h3⟩ := putQ_app Q ⟨moveT x.W t, x.l ++ [t]⟩
    exact ⟨r, h1, h2, fun y hy => by rw [h3 y hy]; exact hx.kid ht hs⟩
  · exact ⟨[], by simp, by simp, fun y hy => by cases hy⟩
theorem kidsF_app {W0 : Wd} {x : Nd} (hx : x.Ok W0) : ∀ (d t : Nat) (Q : List Nd), t + d ≤ W0.prog.length → ∃ r, kidsF x d t Q = Q ++ r ∧ r.length ≤ d ∧ ∀ y ∈ r, y.Ok W0
  | 0, t, Q, _ => ⟨[], by simp [kidsF], by simp, fun y hy => by cases hy⟩
  | d + 1, t, Q, h => by
    obtain ⟨r1, h1, h2, h3⟩ := kidQ_app hx Q (t := t) (by omega)
    obtain ⟨r2, h4, h5, h6⟩ := kidsF_app hx d (t + 1) (kidQ x Q t) (by omega)
    refine ⟨r1 ++ r2, by rw [kidsF, h4, h1, List.append_assoc], by rw [List.length_append]; omega, fun y hy => ?_⟩
    rcases List.mem_append.1 hy with hy | hy
    · exact h3 y hy
    · exact h6 y hy
end Go.Proofs.YtdfndcbakcmgiabDoor
