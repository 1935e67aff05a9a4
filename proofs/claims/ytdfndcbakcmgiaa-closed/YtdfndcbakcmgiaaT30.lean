import Derived.Test.YtdfndcbakcmgiaaT28
import Derived.Test.YtdfndcbakcmgiaaM3
import Derived.Deep.AppendLies
namespace Go.Proofs.Ytdfndcbakcmgiaa
open Go.RowKit

theorem sub48 (t : Nat) (h : t ≤ 100) : IntKind.u8.wrap ((48 : Int) + t - 48) = t := by simp [IntKind.wrap, IntKind.signed, IntKind.bits]; omega

set_option maxRecDepth 100000 in
set_option maxHeartbeats 8000000 in
theorem stands_any (s : ByteArray) (ms : List Nat) (hms : ms.length ≤ 60) (n : Nat) (hn5 : n ≤ 5) (hT : ∀ t ∈ ms, t < n) (l : List Nat) (hl : l.length ≤ 60) (hin : ∀ j ∈ l, j < ms.length) (V : Wd) (U : Nat → Wd) (fl : ByteArray) (fu : Nat → ByteArray)
    (hRep : ∀ w, Calls Try.prog 19 #[.string s, .string (digS (thsAt ms l))] w fun e w' => ReplayOut w w' e (thsOf V n) fl 0)
    (hRepK : ∀ j, j < ms.length → ∀ w, Calls Try.prog 19 #[.string s, .string (digS (ms.take (j + 1)))] w fun e w' => ReplayOut w w' e (thsOf (U j) n) (fu j) 0)
    (hst : ∀ k j t : Nat, l[k]? = some j → ms[j]? = some t → (∀ k' j' : Nat, k < k' → l[k']? = some j' → ms[j']? ≠ some t) → (thOf V t).place = (thOf (U j) t).place ∧ (thOf V t).holds = (thOf (U j) t).holds)
    (a : Option Addr) (c m : Nat) (hm : m = l.length) (w : World) (hA : IntsAt w a (intN l)) :
    Calls Try.prog 43 #[.string s, .string (digS ms), .slice a m c] w fun e w' => e = .returned (.bool true) ∧ Below w.heap.size w w' := by
  have hsz := digS_size ms
  have hCut := fun w hA => cut_any ms hms a c l hl hin m hm w hA
  subst hm
  have hlV : (thsOf V n).length = n := thsOf_len V n
  have hlU : ∀ j, (thsOf (U j) n).length = n := fun j => thsOf_len (U j) n
  simp only [ReplayOut, hlV, hlU] at hRep hRepK
  have HK := show Hid _ from hRepK
  have HST := show Hid _ from hst
  have hgetT : ∀ (w' : World) (x : Option Addr) (Z : Wd), ThsIn w' x (thsOf Z n) → ∀ t, t < n → ∃ g, x = some ⟨g, 0, none⟩ ∧ w'.cell? ⟨g, t * 4 + 1, none⟩ = some (.int .i64 (thOf Z t).place) ∧ w'.cell? ⟨g, t * 4 + 2, none⟩ = some (.string (thOf Z t).holds) := fun w' x Z h t ht => by
    obtain ⟨g2, e, h1, h2, h3, h4⟩ := h t _ (thsOf_get Z _ t ht)
    exact ⟨g2, e, h2, h3⟩
  clear hlV hlU hRepK hst
  go_enter Try.func43, Try.ntmps43
  go_wp2_with (first
    | (go_at_call 71; refine (hCut _ hA).mono ?_; rintro e w1 ⟨rfl, hb1⟩)
    | (go_at_call 19; refine (hRep _).mono ?_; rintro e w2 ⟨a2, c2, rfl, hb2, ht2, _⟩))
  have hB2 := hb1.trans (hb2.mono hb1.size)
  have hBX : Below w.heap.size w (w2.alloc (.cells #[.slice a2 n c2, .string fl] 32)) := hB2.alloc hB2.size _
  have tX := ht2.below ((Below.refl _ _).alloc (Nat.le_refl _) (.cells #[.slice a2 n c2, .string fl] 32))
  have vX : (w2.alloc (.cells #[.slice a2 n c2, .string fl] 32)).cell? ⟨w2.heap.size, 0, none⟩ = some (.slice a2 n c2) := cellB (heap_alloc_new _ _) rfl
  generalize w2.alloc (.cells #[.slice a2 n c2, .string fl] 32) = X at *
  clear hRep hCut ht2 hb1 hb2 hB2
  go_loopw [9] (fun y wr => ∃ k : Nat, k ≤ l.length ∧ y = .int .i64 (k : Int) ∧ Below X.heap.size X wr) (fun y _ => l.length - (intOf y).toNat)
  case atStart => exact ⟨0, Nat.zero_le _, rfl, Below.refl _ _⟩
  case round =>
    obtain ⟨k, hk, rfl, hBr⟩ := hrel
    have hBw := hBX.trans (hBr.mono hBX.size)
    have vr := cell_later hBr vX
    by_cases hkl : k < l.length
    · obtain ⟨j, hj⟩ := get_some l k hkl
      have hjm := hin j (List.mem_of_getElem? hj)
      obtain ⟨t, ht⟩ := get_some ms j hjm
      have htn := hT t (List.mem_of_getElem? ht)
      obtain ⟨g, o, e1, c1⟩ := hA k (j : Int) (by simp [intN, hj])
      subst e1
      have c1' := cell_later hBw c1
      have hbj := digS_at ms j t ht (by omega) (by omega)
      have hs48 := sub48 t (by omega)
      have hex := digS_take ms (j + 1)
      have hRk := HK.out j hjm
      have k0 : (0 : Int) ≤ (k : Int) := by omega
      have kl : (k : Int) < (l.length : Int) := by omega
      have j0 : (0 : Int) ≤ (j : Int) := by omega
      have jm : (j : Int) < (ms.length : Int) := by omega
      have tn : (t : Int) < (n : Int) := by omega
      have t0 : (0 : Int) ≤ (t : Int) := by omega
      have dtn : ¬ ((n : Int) ≤ (t : Int)) := by omega
      generalize digS (ms.take (j + 1)) = pre at *
      go_wp2_with (first
        | (go_at_call 19; refine (hRk _).mono ?_; rintro e w3 ⟨a3, c3, rfl, hb3, ht3, _⟩; have vr3 := cell_later hb3 vr; have vr4 := cell_later ((Below.refl _ _).alloc (Nat.le_refl _) (.cells #[.slice a3 n c3, .string (fu j)] 32)) vr3; have u4 : (w3.alloc (.cells #[.slice a3 n c3, .string (fu j)] 32)).cell? ⟨w3.heap.size, 0, none⟩ = some (.slice a3 n c3) := cellB (heap_alloc_new _ _) rfl))
      have hB3 := hBr.trans (hb3.mono hBr.size)
      have hBX4 : Below X.heap.size X (w3.alloc (.cells #[.slice a3 n c3, .string (fu j)] 32)) := hB3.alloc hB3.size _
      have t3 := ht3.below ((Below.refl _ _).alloc (Nat.le_refl _) (.cells #[.slice a3 n c3, .string (fu j)] 32))
      generalize w3.alloc (.cells #[.slice a3 n c3, .string (fu j)] 32) = X4 at *
      have HJ : Hid (l[k]? = some j) := hj
      have HTT : Hid (ms[j]? = some t) := ht
      clear hj ht hex hs48 hRk ht3 hb3 vr vr3
      go_loopw [13, 14] (fun b y wq => ∃ (i : Nat) (bb : Bool), k + 1 ≤ i ∧ i ≤ l.length ∧ y = .int .i64 (i : Int) ∧ b = .bool bb ∧ Hid (bb = true → ∀ k' j' : Nat, k < k' → k' < i → l[k']? = some j' → ms[j']? ≠ some t) ∧ Below X4.heap.size X4 wq) (fun _ y _ => l.length - (intOf y).toNat)
      case atStart => exact ⟨k + 1, true, Nat.le_refl _, hkl, rfl, rfl, (fun _ k' j' h1 h2 => by omega), Below.refl _ _⟩
      case round =>
        obtain ⟨i, bb, hki, hil, rfl, rfl, HBB, hBq⟩ := hrel
        have hBXq := hBX4.trans (hBq.mono hBX4.size)
        have hBwq := hBX.trans (hBXq.mono hBX.size)
        have cq := cell_later hBwq c1
        by_cases hi : i < l.length
        · obtain ⟨j2, hj2⟩ := get_some l i hi
          have hj2m := hin j2 (List.mem_of_getElem? hj2)
          obtain ⟨t2, ht2⟩ := get_some ms j2 hj2m
          obtain ⟨g2, o2, e2, c2'⟩ := hA i (j2 : Int) (by simp [intN, hj2])
          simp only [Option.some.injEq, Addr.mk.injEq, and_true] at e2
          obtain ⟨rfl, rfl⟩ := e2
          have cq2 := cell_later hBwq c2'
          have hbj2 := digS_at ms j2 t2 ht2 (by have := hT t2 (List.mem_of_getElem? ht2); omega) (by omega)
          have i0 : (0 : Int) ≤ (i : Int) := by omega
          have il : (i : Int) < (l.length : Int) := by omega
          have j20 : (0 : Int) ≤ (j2 : Int) := by omega
          have j2m : (j2 : Int) < (ms.length : Int) := by omega
          have hbn : ((48 : Int) + (t2 : Int) != 48 + (t : Int)) = decide (t2 ≠ t) := by
            by_cases h : t2 = t
            · simp [h]
            · have : (48 : Int) + (t2 : Int) ≠ 48 + (t : Int) := by omega
              simp [h, bne_iff_ne, this]
          have HN : Hid (bb = true → t2 ≠ t → ∀ k' j' : Nat, k < k' → k' < i + 1 → l[k']? = some j' → ms[j']? ≠ some t) := fun h1 h2 k' j' h3 h4 h5 => by
            by_cases e : k' = i
            · subst e
              rw [hj2] at h5
              cases h5
              rw [ht2]
              intro h; cases h; exact h2 rfl
            · exact HBB.out h1 k' j' h3 (by omega) h5
          clear hj2 ht2 HBB
          cases bb with
          | false =>
            go_upto_region 15 with fail
            go_quiet (fail)
            go_wp2
            go_roundw
            case rel => exact ⟨i + 1, false, by omega, by omega, rfl, rfl, (fun h => by cases h), hBq.trans ((below_drewN _ _).mono hBq.size)⟩
            case measure => (simp [intOf] <;> omega)
          | true =>
            by_cases hne : t2 ≠ t
            · rw [decide_eq_true hne] at hbn
              go_upto_region 15 with fail
              go_quiet (fail)
              go_wp2
              go_roundw
              case rel => exact ⟨i + 1, true, by omega, by omega, rfl, rfl, (fun h => HN.out h hne), hBq.trans ((below_drewN _ _).mono hBq.size)⟩
              case measure => (simp [intOf] <;> omega)
            · rw [decide_eq_false hne] at hbn
              go_upto_region 15 with fail
              go_quiet (fail)
              go_wp2
              go_roundw
              case rel => exact ⟨i + 1, false, by omega, by omega, rfl, rfl, (fun h => by cases h), hBq.trans ((below_drewN _ _).mono hBq.size)⟩
              case measure => (simp [intOf] <;> omega)
        · have il : ¬ (i : Int) < (l.length : Int) := by omega
          have p1 := cell_later hBq vr4
          have p2 := cell_later hBq u4
          cases bb with
          | false =>
            go_upto_region 16 with fail
            go_quiet (fail)
            go_wp2
            go_roundw
            case rel => exact ⟨k + 1, by omega, rfl, hBXq.trans ((below_drewN _ _).mono hBXq.size)⟩
            case measure => (simp [intOf] <;> omega)
          | true =>
            obtain ⟨q1, q2⟩ := HST.out k j t HJ.out HTT.out (fun k' j' h1 h2 => HBB.out rfl k' j' h1 (by have := (List.getElem?_eq_some_iff.1 h2).1; omega) h2)
            obtain ⟨g1, ea, r1, r2⟩ := hgetT wr a2 V (tX.below hBXq) t htn
            obtain ⟨g3, eb, r3, r4⟩ := hgetT wr a3 (U j) (t3.below hBq) t htn
            subst ea eb
            rw [← q1] at r3
            rw [← q2] at r4
            generalize (thOf V t).place = pl at *
            generalize (thOf V t).holds = ho at *
            clear HST q1 q2 hgetT HBB
            go_upto_region 16 with fail
            go_quiet (fail)
            go_wp2
            go_roundw
            case rel => exact ⟨k + 1, by omega, rfl, hBXq.trans ((below_drewN _ _).mono hBXq.size)⟩
            case measure => (simp [intOf] <;> omega)
    · have kl : ¬ (k : Int) < (l.length : Int) := by omega
      go_wp2
      go_ret
      exact ⟨rfl, hBw⟩
end Go.Proofs.Ytdfndcbakcmgiaa
namespace Go.Proofs.Ytdfndcbakcmgiaa
open Go.RowKit

theorem listB_mem {m : List Bool} {n x : Nat} : x ∈ listB m n ↔ x < n ∧ m[x]? = some true := by
  simp only [listB, List.mem_filter, List.mem_range, getD_true]
theorem listB_rise (m : List Bool) (n : Nat) : (listB m n).Pairwise (· < ·) := List.Pairwise.filter _ List.pairwise_lt_range
theorem intN_row {w : World} {B g c : Nat} {l : List Nat} (h : w.ownsRow B 3 1 (.slice (some ⟨g, 0, none⟩) l.length c) l.length (intV l)) : IntsAt w (some ⟨g, 0, none⟩) (intN l) := intsAt_rowV rfl h
theorem intZ_row {w : World} {B n c : Nat} {a : Option Addr} {l : List Int} (hn : n = l.length) (h : w.ownsRow B 3 1 (.slice a n c) n (intZ l)) : IntsAt w a l := fun k x hx => by
  subst hn
  have hk := (List.getElem?_eq_some_iff.1 hx).1
  rcases h.2 with ⟨h1, h2⟩ | ⟨g, cap, cur, h1, _⟩
  · omega
  · simp only [Value.slice.injEq] at h1
    obtain ⟨rfl, _, rfl⟩ := h1
    refine ⟨g, 0, rfl, ?_⟩
    rw [Nat.zero_add, h.cellAt k (by omega)]
    simp [intZ, hx]
/-- A closed set is the least one that has its own events. -/
theorem midS_self {log : List Ev} {m : List Bool} (hin : InN log.length m) (h60 : log.length ≤ 60) : MidS log (markE 60 (intN (listB m log.length))) m := by
  have hiff : ∀ x : Nat, (markE 60 (intN (listB m log.length)))[x]? = some true ↔ m[x]? = some true := fun x => by
    rw [markE_iff]
    constructor
    · rintro ⟨_, y, hy, e⟩
      simp only [intN, List.mem_map] at hy
      obtain ⟨z, hz, rfl⟩ := hy
      rw [Int.toNat_natCast] at e
      subst e
      exact (listB_mem.1 hz).2
    · intro hx
      have := hin x hx
      refine ⟨by omega, (x : Int), ?_, by simp⟩
      simp only [intN, List.mem_map]
      exact ⟨x, listB_mem.2 ⟨this, hx⟩, rfl⟩
  exact ⟨fun x hx => (hiff x).1 hx, fun M _ hs x hx => hs x ((hiff x).2 hx)⟩

/-- What is known of a run and of one of its closed sets. -/
structure RunClosed (s : ByteArray) (ms : List Nat) (WE : Wd) (l : List Nat) : Prop where
  down : ∀ (a : Option Addr) (c n : Nat) (w : World), n = l.length → IntsAt w a (intN l) → Calls Try.prog 42 #[.string s, .string (digS ms), .slice a n c] w fun e w' => e = .returned (.bool true) ∧ Below w.heap.size w w'
  stands : ∀ (a : Option Addr) (c n : Nat) (w : World), n = l.length → IntsAt w a (intN l) → Calls Try.prog 43 #[.string s, .string (digS ms), .slice a n c] w fun e w' => e = .returned (.bool true) ∧ Below w.heap.size w w'

theorem runClosed_of (s : ByteArray) (h0 : (ckP s).1 = 0) (ms : List Nat) (WE : Wd) (hg : goL (beginW (thLoop s 0 0 [])) ms = some WE) (hms : ms.length ≤ 60) (hsm : ∀ t ∈ ms, t < WE.prog.length) (m : List Bool) (hin : InN WE.log.length m) (hC : ClosedS WE.log m) : RunClosed s ms WE (listB m WE.log.length) := by
  have I0 := begin_inv s h0
  have hsm' : ∀ t ∈ ms, t ≤ 100 := fun t ht => by have := hsm t ht; have := (goL_inv ms _ _ I0 hg).1.good.n5; omega
  have IE := (goL_inv ms _ _ I0 hg).1
  have hl0 : (beginW (thLoop s 0 0 [])).log = [] := begin_log _
  obtain ⟨hln, hlg⟩ := log_of hg hl0 ms.length (Nat.le_refl _)
  rw [worldAt_end hg] at hln hlg
  have A := along_of _ I0 hg
  have C := closedN_of _ I0 hg m hC
  have hto : toLoop (digS ms) (beginW (thLoop s 0 0 [])) 0 = some WE := by rw [toLoop_dig _ I0 _ hsm']; exact hg
  have hmem : ∀ x, x ∈ listB m WE.log.length ↔ m[x]? = some true := fun x => by rw [listB_mem]; exact ⟨fun h => h.2, fun h => ⟨hin x h, h⟩⟩
  have hlin : ∀ j ∈ listB m WE.log.length, j < ms.length := fun j hj => by have := (listB_mem.1 hj).1; omega
  have h60 : (listB m WE.log.length).length ≤ 60 := Nat.le_trans (listB_len _ _) (by omega)
  constructor
  · intro a c n w hn hA
    refine downwards_any s ms hms hsm' (fun i j => (aheadR WE.log j)[i]?.getD false) (fun i j hij hj w => ?_) _ h60 hlin (listB_rise _ _) (fun j hj i hij hb => ?_) (fun i j hij hj he => ?_) a c n hn w hA
    · have hv : befV s (digS ms) i j = ((aheadR WE.log j)[i]?.getD false, 0) := by
        rw [befV, if_neg (by rw [h0]; decide), hto]
        simp only [befW]
        rw [if_neg (by omega), Int.toNat_natCast, Int.toNat_natCast]
      have := before_any s (digS ms) i j (by rw [digS_size]; unfold maxLen; omega) w
      rw [hv] at this
      exact this
    · rw [hmem]
      exact hC j ((hmem j).1 hj) i (.ahead hij (getD_true.1 hb))
    · rw [getD_true, aheadR_iff WE.log j (by omega)]
      refine .one hij ?_
      rw [leadB_at (hlg i (by omega)) (hlg j hj)]
      have : thAt ms i = thAt ms j := by rw [thAt, thAt, he]
      simp [strE, strB, evAt, this]
  · intro a c n w hn hA
    have hgp := goL_part A C ms.length (Nat.le_refl _)
    have hw0 : worldAt (beginW (thLoop s 0 0 [])) ms 0 = beginW (thLoop s 0 0 []) := by simp [worldAt, goL]
    have hfl : ((List.range ms.length).filter fun i => m[i]?.getD false).map (thAt ms) = thsAt ms (listB m WE.log.length) := by
      rw [thsAt, listB, hln]; rfl
    rw [hfl, hw0] at hgp
    have hpN : (partW (beginW (thLoop s 0 0 [])) (thAt ms) (fun i => m[i]?.getD false) ms.length).prog.length = WE.prog.length := by
      rw [(goL_inv _ _ _ I0 hgp).2, (goL_inv _ _ _ I0 hg).2]
    have hpU : ∀ j, (worldAt (beginW (thLoop s 0 0 [])) ms (j + 1)).prog.length = WE.prog.length := fun j => by
      rw [(goL_inv _ _ _ I0 (worldAt_some hg (j + 1))).2, (goL_inv _ _ _ I0 hg).2]
    have hT100 : ∀ t ∈ thsAt ms (listB m WE.log.length), t ≤ 100 := fun t ht => by
      simp only [thsAt, List.mem_map] at ht
      obtain ⟨i, hi, rfl⟩ := ht
      obtain ⟨t, ht⟩ := get_some ms i (hlin i hi)
      rw [ht]; exact hsm' t (List.mem_of_getElem? ht)
    refine stands_any s ms hms WE.prog.length IE.good.n5 hsm _ h60 hlin (partW (beginW (thLoop s 0 0 [])) (thAt ms) (fun i => m[i]?.getD false) ms.length) (fun j => worldAt (beginW (thLoop s 0 0 [])) ms (j + 1)) (flagsLoop (partW (beginW (thLoop s 0 0 [])) (thAt ms) (fun i => m[i]?.getD false) ms.length).set 0 ⟨#[]⟩) (fun j => flagsLoop (worldAt (beginW (thLoop s 0 0 [])) ms (j + 1)).set 0 ⟨#[]⟩) (fun w => ?_) (fun j hj w => ?_) (fun k j t hk ht hlast => ?_) a c n hn w hA
    · have := replay_go s h0 _ hT100 (by simp [thsAt]; omega) _ hgp w
      rw [hpN] at this
      exact this
    · have := replay_go s h0 (ms.take (j + 1)) (fun t ht => hsm' t (List.mem_of_mem_take ht)) (by simp; omega) _ (worldAt_some hg (j + 1)) w
      rw [hpU j] at this
      exact this
    · have hjm := hlin j (List.mem_of_getElem? hk)
      have hSj : (fun i => m[i]?.getD false) j = true := getD_true.2 ((hmem j).1 (List.mem_of_getElem? hk))
      have hTj : thAt ms j = t := by rw [thAt, ht]; rfl
      have hl : ∀ i', j < i' → i' < ms.length → (fun i => m[i]?.getD false) i' = true → thAt ms i' ≠ t := fun i' h1 h2 h3 h4 => by
        have hi' := (hmem i').2 (getD_true.1 h3)
        obtain ⟨k', hk', he⟩ := List.getElem_of_mem hi'
        have hkk : k < k' := by
          obtain ⟨hk1, hk2⟩ := List.getElem?_eq_some_iff.1 hk
          rcases Nat.lt_trichotomy k k' with h | h | h
          · exact h
          · subst h; omega
          · have := List.pairwise_iff_getElem.1 (listB_rise m WE.log.length) k' k hk' hk1 h
            omega
        refine hlast k' i' hkk (by rw [← he]; simp) ?_
        obtain ⟨t', ht'⟩ := get_some ms i' h2
        rw [thAt, ht', Option.getD_some] at h4
        rw [ht', h4]
      have e1 := stands_place A C hjm hSj hTj hl
      have e2 := stands_holds A C hjm hSj hTj hl
      rw [hw0] at e1 e2
      constructor
      · show (((_ : Nat) : Int)) = ((_ : Nat) : Int)
        rw [e1]
      · exact e2
end Go.Proofs.Ytdfndcbakcmgiaa
namespace Go.Proofs.Ytdfndcbakcmgiaa
open Go.RowKit

set_option maxRecDepth 100000 in
set_option maxHeartbeats 8000000 in
theorem Closed_in (s picks : ByteArray) (a : Option Addr) (ca : Nat) (raw : List Int) (hraw : raw.length * 8 ≤ 140737488355328) (hwf : ∀ x ∈ raw, -9223372036854775808 ≤ x ∧ x ≤ 9223372036854775807) (w : World) (hA : IntsAt w a raw) (h0 : (ckP s).1 = 0) :
    Calls Try.prog 12 #[.string s, .string picks, .slice a raw.length ca] w fun e w' => e = .returned (.bool true) ∧ Below w.heap.size w w' := by
  have I0 := begin_inv s h0
  obtain ⟨ms, how, WE, hr⟩ := runs_ex picks _ (beginW (thLoop s 0 0 [])) 0 I0 rfl
  have hlen := hr.len I0
  have hsm := hr.small I0.good.n5
  have hsm' : ∀ t ∈ ms, t ≤ 100 := fun t ht => by have := hsm t ht; omega
  have hE := hr.ends I0
  have hto0 : toLoop ⟨#[]⟩ (beginW (thLoop s 0 0 [])) 0 = some (beginW (thLoop s 0 0 [])) := by rw [toLoop, if_neg (by simp [ByteArray.size])]
  have hV : resumeV s ⟨#[]⟩ picks = .tuple #[.string (digS ms), .int .i64 how, .int .i64 0] := by
    rw [resumeV, if_neg (by rw [h0]; decide), hto0]
    simp only [hr.resumeL 61 [] rfl (by omega), List.nil_append]
  have hRun := fun w => run_any s picks w
  rw [hV] at hRun
  have hIs := fun w => isProgram_yes s picks (digS ms) how w h0 hV hE.range.1 hE.range.2
  have hg := hr.goes
  have hto : toLoop (digS ms) (beginW (thLoop s 0 0 [])) 0 = some WE := by rw [toLoop_dig _ I0 _ hsm']; exact hg
  have hlg : WE.log.length = ms.length := by
    have := (log_of hg (begin_log _) ms.length (Nat.le_refl _)).1
    rw [worldAt_end hg] at this
    exact this
  have hsmP : ∀ t ∈ ms, t < WE.prog.length := fun t ht => by
    obtain ⟨j, hj, rfl⟩ := List.getElem_of_mem ht
    have h1 := (worldAt_step hg hj).1
    rw [(goL_inv _ _ _ I0 (worldAt_some hg j)).2, ← (goL_inv _ _ _ I0 hg).2] at h1
    simpa [thAt, hj] using h1
  have hszm : (digS ms).size ≤ maxLen := by rw [digS_size]; unfold maxLen; omega
  have hCl : ∀ (w : World) (b : Option Addr) (c n : Nat) (ev : List Int), ev.length ≤ maxLen → n = ev.length → inR WE.log.length ev → IntsAt w b ev → Calls Try.prog 28 #[.string s, .string (digS ms), .slice b n c] w fun e w' => Below w.heap.size w w' ∧ ∃ g' c' m, Hid (MidS WE.log (markE 60 ev) m ∧ ClosedS WE.log m ∧ InN WE.log.length m) ∧ e = .returned (.tuple #[.slice (some ⟨g', 0, none⟩) (listB m WE.log.length).length c', .int .i64 0]) ∧ w'.ownsRow w.heap.size 3 1 (.slice (some ⟨g', 0, none⟩) (listB m WE.log.length).length c') (listB m WE.log.length).length (intV (listB m WE.log.length)) := by
    intro w b c n ev h1 h2 h3 h4
    subst h2
    refine (close_ok s (digS ms) b c ev h1 hszm w h4 h0 WE hto).mono ?_
    rintro e w' ⟨hb, ⟨hno, _⟩ | ⟨_, g', c', m, h5, h6, _, he, ho⟩⟩
    · exact absurd h3 hno
    · exact ⟨hb, g', c', m, ⟨h5, h6, h5.inN (markE_inN h3)⟩, he, ho⟩
  have hRC : ∀ m, ClosedS WE.log m → InN WE.log.length m → RunClosed s ms WE (listB m WE.log.length) := fun m h1 h2 => runClosed_of s h0 ms WE hg hlen hsmP m h2 h1
  have hods := digS_size ms
  obtain ⟨i0, hi0, hz0, hz1, hz2⟩ := info_split infoInt
  have HLG : Hid (WE.log.length = ms.length) := hlg
  have HRAW : Hid (raw.length * 8 ≤ 140737488355328) := hraw
  have hrl : raw.length ≤ 17592186044416 := by omega
  clear hV hr hsm hsm' hE hto0 I0 hto hsmP hszm hg hlg hraw
  go_enter Try.func12, Try.ntmps12
  go_wp2_with (first
    | (go_at_call 35; refine (hIs _).mono ?_; rintro e w1 ⟨rfl, hb1⟩)
    | (go_at_call 16; refine (hRun _).mono ?_; rintro e w2 ⟨rfl, hb2⟩))
  have hB2 := hb1.trans (hb2.mono hb1.size)
  clear hIs hRun
  go_loopw [12, 13] (fun v y wr => ∃ (i : Nat) (ev : List Int), i ≤ raw.length ∧ y = .int .i64 (i : Int) ∧ ev.length = i ∧ inR ms.length ev ∧ wr.ownsRow w.heap.size 3 1 v ev.length (intZ ev) ∧ Below w.heap.size w wr) (fun _ y _ => raw.length - (intOf y).toNat)
  case atStart => exact ⟨0, [], Nat.zero_le _, rfl, rfl, by simp [inR], by simpa [intZ] using World.ownsRow_nil w2 w.heap.size 3 1, hB2⟩
  case round =>
    obtain ⟨i, ev, hi, rfl, hei, hinR, hown, hBr⟩ := hrel
    have HEI : Hid (ev.length = i) := hei
    have HIN : Hid (inR ms.length ev) := hinR
    clear hei hinR
    by_cases hgo : i < raw.length ∧ 0 < ms.length
    · obtain ⟨x, hx⟩ := get_some raw i hgo.1
      obtain ⟨g, o, e1, c1⟩ := hA i x hx
      subst e1
      have c1' := cell_later hBr c1
      have hxw := hwf x (List.mem_of_getElem? hx)
      have hPk := fun w => pick_any x hxw.1 hxw.2 ms.length hgo.2 (by omega) w
      have i0' : (0 : Int) ≤ (i : Int) := by omega
      have il : (i : Int) < (raw.length : Int) := by omega
      have dm : (0 : Int) < (ms.length : Int) := by omega
      have dm2 : 0 < ms.length := hgo.2
      have hszr := hBr.size
      clear hx
      go_wp2_with (first
        | (go_at_call 40; refine (hPk _).mono ?_; rintro e w3 ⟨⟨r, hr, rfl⟩, hw⟩; have hw2 := hw.symm; clear hw; subst hw2)
        | (at_builtin; go_loud (refine wpList_append_lies _ rfl _ _ 46 rfl w.heap.size 3 i0 (.int .i64 0) 1 8 Try.underlying46 hi0 hz0 hz1 hz2 rfl (by decide) _ ev.length (intZ ev) rfl (hown.alloc _) ⟨wr.heap.size, 0, none⟩ 1 1 [.int .i64 (r : Int)] rfl rfl (World.news_of_block (cs := #[.int .i64 (r : Int)]) (t := 3) (fr := (0, 0)) (heap_alloc_new wr _)) (by simp [Value.oneCell']) (by decide) ?c3 ?c4 ?c5 (wr.heap.size + 1) (by simp) ?_)))
      case c3 => have := HEI.out; unfold maxLen; omega
      case c4 => have := HEI.out; omega
      case c5 => simp; omega
      intro gg cap w4 hown4 hgrow hat hlt
      have hB4 : Below w.heap.size w w4 := below_grown (hBr.alloc hszr _) (by simp; omega) hgrow (fun k hk => (World.ownsRow.lt hown k hk).1)
      clear hgrow hat hlt hown
      go_wp2
      go_roundw
      case rel =>
        refine ⟨i + 1, ev ++ [(r : Int)], by omega, rfl, by rw [List.length_append, HEI.out]; rfl, ?_, ?_, hB4⟩
        · intro y hy
          rcases List.mem_append.1 hy with h | h
          · exact HIN.out y h
          · simp only [List.mem_singleton] at h; subst h; omega
        · simpa [intZ] using hown4
      case measure => (simp [intOf] <;> omega)
    · have hno : decide (i < raw.length) = false ∨ (decide (i < raw.length) = true ∧ decide (0 < ms.length) = false) := by
        by_cases h : i < raw.length
        · exact .inr ⟨decide_eq_true h, decide_eq_false (fun h2 => hgo ⟨h, h2⟩)⟩
        · exact .inl (decide_eq_false h)
      obtain ⟨b, c, hv⟩ := row_slice hown
      subst hv
      have hIe := intZ_row rfl hown
      have hC1 := hCl wr b c _ ev (by have := HEI.out; unfold maxLen; omega) rfl (by rw [HLG.out]; exact HIN.out) hIe
      have hbnd : ev.length ≤ 17592186044416 := by have := HEI.out; omega
      clear hgo hown hA hwf
      have hfin : ∀ (Q : Exit → Act → World → Prop), True := fun _ => trivial
      clear hfin
      rcases hno with hn1 | ⟨hn1, hn2⟩
      all_goals
        go_upto_region 13 with (first | (go_at_call 28; refine hC1.mono ?_; rintro e w3 ⟨hb3, gl, cl, m, HM, rfl, ho3⟩))
        have hB3 := hBr.trans (hb3.mono hBr.size)
        have hIl := intN_row ho3
        have hIe3 := hIe.below hb3
        have hLl : (listB m WE.log.length).length ≤ 60 := by have := listB_len m WE.log.length; have := HLG.out; omega
        have hmemE : ∀ y ∈ ev, y ∈ intN (listB m WE.log.length) := fun y hy => by
          have h1 := HIN.out y hy
          have h2 := HLG.out
          have h3 : (markE 60 ev)[y.toNat]? = some true := (markE_iff 60 ev _).2 ⟨by omega, y, hy, rfl⟩
          have h4 := HM.out.1.sub _ h3
          simp only [intN, List.mem_map]
          exact ⟨y.toNat, listB_mem.2 ⟨by omega, h4⟩, by omega⟩
        have RC := hRC m HM.out.2.1 HM.out.2.2
        have hC2 : ∀ (w : World) (b : Option Addr) (c : Nat), IntsAt w b (intN (listB m WE.log.length)) → Calls Try.prog 28 #[.string s, .string (digS ms), .slice b (listB m WE.log.length).length c] w fun e w' => Below w.heap.size w w' ∧ ∃ g' c', e = .returned (.tuple #[.slice (some ⟨g', 0, none⟩) (listB m WE.log.length).length c', .int .i64 0]) ∧ w'.ownsRow w.heap.size 3 1 (.slice (some ⟨g', 0, none⟩) (listB m WE.log.length).length c') (listB m WE.log.length).length (intV (listB m WE.log.length)) := fun w b c hI => by
          refine (hCl w b c _ (intN (listB m WE.log.length)) (by simp [intN]; unfold maxLen; omega) (by simp [intN]) (fun y hy => ?_) hI).mono ?_
          · simp only [intN, List.mem_map] at hy
            obtain ⟨z, hz, rfl⟩ := hy
            have := (listB_mem.1 hz).1
            omega
          · rintro e w' ⟨hb, g', c', m2, HM2, he, ho⟩
            have hu := midS_unique HM2.out.1 HM2.out.2.1 (midS_self HM.out.2.2 (by have := HLG.out; omega)) HM.out.2.1 WE.log.length
            rw [hu] at he ho
            exact ⟨hb, g', c', he, ho⟩
        have hHas := fun (x : Int) w' hA' => has_any (some ⟨gl, 0, none⟩) cl (intN (listB m WE.log.length)) (by simp [intN]; unfold maxLen; omega) x w' hA'
        have hln : (intN (listB m WE.log.length)).length = (listB m WE.log.length).length := by simp [intN]
        rw [hln] at hHas
        have hSm := fun (z : Option Addr) (cz : Nat) w' ha hb => sameInts_len (some ⟨gl, 0, none⟩) z cl cz (listB m WE.log.length).length (intN (listB m WE.log.length)) hln.symm (by rw [hln]; unfold maxLen; omega) w' ha hb
        have HWL : Hid (∀ w', Below w3.heap.size w3 w' → IntsAt w' (some ⟨gl, 0, none⟩) (intN (listB m WE.log.length))) := fun w' hb => hIl.below hb
        have hdn := fun c w' hI => RC.down (some ⟨gl, 0, none⟩) c _ w' rfl hI
        have hsd := fun c w' hI => RC.stands (some ⟨gl, 0, none⟩) c _ w' rfl hI
        generalize (listB m WE.log.length) = l at *
        have HEV : Hid (∀ y ∈ ev, y ∈ intN l) := hmemE
        clear hln hCl hRC HM hC1 ho3 RC hmemE
        go_wp2
        go_loopw [16] (fun y wq => ∃ k : Nat, k ≤ ev.length ∧ y = .int .i64 (k : Int) ∧ Below w3.heap.size w3 wq) (fun y _ => ev.length - (intOf y).toNat)
        case atStart => exact ⟨0, Nat.zero_le _, rfl, Below.refl _ _⟩
        case round =>
          obtain ⟨k, hk, rfl, hBq⟩ := hrel
          by_cases hke : k < ev.length
          · obtain ⟨y, hy⟩ := get_some ev k hke
            obtain ⟨g2, o2, e2, c2⟩ := hIe3 k y hy
            subst e2
            have c2' := cell_later hBq c2
            have hH := hHas y wr (HWL.out _ hBq)
            rw [decide_eq_true (HEV.out y (List.mem_of_getElem? hy))] at hH
            have k0 : (0 : Int) ≤ (k : Int) := by omega
            have kl : (k : Int) < (ev.length : Int) := by omega
            clear hy
            go_wp2_with (first | (go_at_call 41; refine hH.mono ?_; rintro e w4 ⟨rfl, hw⟩; have hw2 := hw.symm; clear hw; subst hw2))
            go_roundw
            case rel => exact ⟨k + 1, by omega, rfl, hBq⟩
            case measure => (simp [intOf] <;> omega)
          · have kl : ¬ (k : Int) < (ev.length : Int) := by omega
            have hD := hdn cl wr (HWL.out _ hBq)
            clear hIe3 hHas hIe
            go_upto_region 22 with (first | (go_at_call 42; refine hD.mono ?_; rintro e w5 ⟨rfl, hb5⟩))
            have hB5 := hBq.trans (hb5.mono hBq.size)
            have hC5 := hC2 w5 (some ⟨gl, 0, none⟩) cl (HWL.out _ hB5)
            go_upto_region 23 with (first | (go_at_call 28; refine hC5.mono ?_; rintro e w6 ⟨hb6, g6, c6, rfl, ho6⟩))
            have hB6 := hB5.trans (hb6.mono hB5.size)
            have hI6 := intN_row ho6
            have hS6 := hSm (some ⟨g6, 0, none⟩) c6 w6 (HWL.out _ hB6) hI6
            go_upto_region 26 with (first | (go_at_call 30; refine hS6.mono ?_; rintro e w7 ⟨rfl, hb7⟩))
            have hB7 := hB6.trans (hb7.mono hB6.size)
            have hS7 := hsd cl w7 (HWL.out _ hB7)
            go_wp2_with (first | (go_at_call 43; refine hS7.mono ?_; rintro e w8 ⟨rfl, hb8⟩))
            go_ret
            have hB8 := hB7.trans (hb8.mono hB7.size)
            exact ⟨rfl, hB3.trans (hB8.mono hB3.size)⟩

theorem Closed_out (s picks : ByteArray) (a : Option Addr) (n c : Nat) (w : World) (h : (ckP s).1 ≠ 0) :
    Calls Try.prog 12 #[.string s, .string picks, .slice a n c] w fun e w' => e = .returned (.bool true) ∧ Below w.heap.size w w' := by
  have hIs := fun w => isProgram_no s picks w h
  go_enter Try.func12, Try.ntmps12
  go_wp2_with (first
    | (go_at_call 35; refine (hIs _).mono ?_; rintro e w1 ⟨rfl, hb1⟩))
  go_ret
  exact ⟨rfl, hb1⟩
end Go.Proofs.Ytdfndcbakcmgiaa
