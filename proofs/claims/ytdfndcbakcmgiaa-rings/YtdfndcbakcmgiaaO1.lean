import Derived.Test.YtdfndcbakcmgiaaN1
import Derived.Test.YtdfndcbakcmgiaaT28
import Derived.Test.YtdfndcbakcmgiaaU18
namespace Go.Proofs.Ytdfndcbakcmgiaa
open Go.RowKit

set_option maxRecDepth 100000 in
set_option maxHeartbeats 2000000 in
theorem letter_dig (k : Nat) (hk : k ≤ 100) (l : List Nat) (hl : l.length ≤ 1000) (h6 : ∀ x ∈ l, x ≤ 100) (w : World) :
    Calls Try.prog 70 #[.string (nameS k), .string (digS l)] w fun e w' => e = .returned (.bool (decide (k ∈ l))) ∧ w' = w := by
  have hsz := digS_size l
  go_enter Try.func70, Try.ntmps70
  go_wp2
  go_loop [5] (fun x => ∃ i : Nat, i ≤ l.length ∧ x = .int .i64 (i : Int) ∧ Hid (k ∉ l.take i)) (fun x => l.length - (intOf x).toNat)
  case atStart => exact ⟨0, Nat.zero_le _, rfl, by simp [Hid]⟩
  case round =>
    obtain ⟨i, hi, rfl, HN⟩ := hrel
    by_cases hil : i < l.length
    · obtain ⟨x, hx⟩ := get_some l i hil
      have hex : (digS l).extract i (i + 1) = nameS x := digS_ext l i x hx
      have hx6 := h6 x (List.mem_of_getElem? hx)
      have heq := nameS_eq x k hx6 hk
      have i0 : (0 : Int) ≤ (i : Int) := by omega
      have il : (i : Int) < (l.length : Int) := by omega
      by_cases hxk : x = k
      · have HD : Hid (decide (k ∈ l) = true) := decide_eq_true (by rw [← hxk]; exact List.mem_of_getElem? hx)
        rw [decide_eq_true hxk] at heq
        clear hx
        go_wp2
        go_ret
        exact ⟨by rw [HD.out]; rfl, rfl⟩
      · have HN2 : Hid (k ∉ l.take (i + 1)) := by
          rw [Hid, List.take_add_one, hx]
          intro h
          rcases List.mem_append.1 h with h | h
          · exact HN.out h
          · simp at h; exact hxk h.symm
        rw [decide_eq_false hxk] at heq
        clear hx
        go_wp2
        go_round
        case rel => exact ⟨i + 1, by omega, rfl, HN2⟩
        case measure => (simp [intOf] <;> omega)
    · have il : ¬ (i : Int) < (l.length : Int) := by omega
      have HD : Hid (decide (k ∈ l) = false) := by
        have h := HN.out
        rw [show i = l.length by omega, List.take_length] at h
        exact decide_eq_false h
      go_wp2
      go_ret
      exact ⟨by rw [HD.out]; rfl, rfl⟩

theorem RingAt.th {V : Wd} {x y : Aq} (h : RingAt V x y) : thOf V x.th = ⟨2, x.pl, letS 97 x.hl, y.th⟩ := by
  obtain ⟨l, hA⟩ := h.at'
  obtain ⟨h1, h2⟩ := lock_state hA h.k6 h.has h.ne
  rw [thOf, h1, h2, holdsOf_held, h.hl, hA.place]; rfl

set_option maxRecDepth 100000 in
set_option maxHeartbeats 1000000 in
theorem held_any (s picks : ByteArray) (h0 : (ckP s).1 = 0) (la : List Aq) (hok : ∀ x ∈ la, x.Ok) (p : List Nat) (hp2 : 2 ≤ p.length) (hp5 : p.length ≤ 5) (hin : ∀ i ∈ p, i < la.length) (sc : List Nat) (hsc : ∀ t ∈ sc, t ≤ 100) (hscl : sc.length ≤ 1000) (V : Wd) (hV : goL (beginW (thLoop s 0 0 [])) sc = some V) (IV : V.Inv)
    (hR : ∀ i, i < p.length → RingAt V (aqOf la (pAt p i)) (aqOf la (pAt p ((i + 1) % p.length)))) (w : World) (a : Option Addr) (ca : Nat) (ha : AqsAt w a la) (b : Option Addr) (cb : Nat) (hb : IntsAt w b (intN p)) :
    Calls Try.prog 44 #[.string s, .slice a la.length ca, .agg #[.slice b p.length cb, .int .i64 4, .string (digS sc)], .string picks] w fun e w' => e = .returned (.bool true) ∧ Below w.heap.size w w' := by
  have hRp := fun w => replay_go s h0 sc hsc hscl V hV w
  have I0 := begin_inv s h0
  have hW : toLoop (digS sc) (beginW (thLoop s 0 0 [])) 0 = some V := by rw [toLoop_dig _ I0 sc hsc]; exact hV
  have hRs := fun w => resume_ok s (digS sc) picks (by rw [digS_size]; unfold maxLen; omega) w h0 V hW
  obtain ⟨ms2, hw2, WE, rT⟩ := runs_ex picks _ V 0 IV rfl
  have hlen := rT.len IV
  have hres := rT.resumeL 61 [] rfl (by omega)
  rw [List.nil_append] at hres
  rw [hres] at hRs
  obtain ⟨hno, hne1⟩ := runs_stuck rT IV (ring_stuck (by intro e; rw [e] at hp2; simp at hp2) hR) (by intro e; rw [List.map_eq_nil_iff] at e; rw [e] at hp2; simp at hp2)
  have hms2 : ∀ t ∈ ms2, t ≤ 100 := fun t ht => by have := rT.small IV.good.n5 t ht; omega
  have hnI : (hw2 == 1) = false := beq_false_of_ne hne1
  have hln : (thsOf V V.prog.length).length = V.prog.length := thsOf_len V _
  have hn5 := IV.good.n5
  simp only at hRs
  have HTh : Hid (∀ w' aT, ThsIn w' aT (thsOf V V.prog.length) → ∀ i, i < p.length → ∃ g, aT = some ⟨g, 0, none⟩ ∧ w'.cell? ⟨g, (aqOf la (pAt p i)).th * 4, none⟩ = some (.int .i64 2) ∧ w'.cell? ⟨g, (aqOf la (pAt p i)).th * 4 + 1, none⟩ = some (.int .i64 ((aqOf la (pAt p i)).pl : Int)) ∧ w'.cell? ⟨g, (aqOf la (pAt p i)).th * 4 + 2, none⟩ = some (.string (letS 97 (aqOf la (pAt p i)).hl)) ∧ w'.cell? ⟨g, (aqOf la (pAt p i)).th * 4 + 3, none⟩ = some (.int .i64 ((aqOf la (pAt p ((i + 1) % p.length))).th : Int)) ∧ (aqOf la (pAt p i)).th < V.prog.length) := fun w' aT hT i hi => by
    have r := hR i hi
    obtain ⟨g, e, h1, h2, h3, h4⟩ := hT _ _ (thsOf_get V _ _ r.lt)
    rw [r.th] at h1 h2 h3 h4
    exact ⟨g, e, h1, h2, h3, h4, r.lt⟩
  have HLt : Hid (∀ i, i < p.length → decide ((aqOf la (pAt p i)).th ∈ ms2) = false) := fun i hi => decide_eq_false fun hm => hno _ hm (List.mem_map.2 ⟨_, pAt_mem hi, rfl⟩)
  generalize flagsLoop V.set 0 ⟨#[]⟩ = fl at *
  generalize hTL : thsOf V V.prog.length = TL at *
  have HTL := show Hid _ from hTL
  generalize hVN : V.prog.length = VN at *
  have HVN := show Hid _ from hVN
  have HLN := show Hid _ from hln
  have R0 : (w.alloc (.cells #[.slice b p.length cb, .int .i64 4, .string (digS sc)] 58)).heap[w.heap.size]? = some (.cells #[.slice b p.length cb, .int .i64 4, .string (digS sc)] 58) := heap_alloc_new _ _
  have hX : Below w.heap.size w (w.alloc (.cells #[.slice b p.length cb, .int .i64 4, .string (digS sc)] 58)) := (Below.refl _ _).alloc (Nat.le_refl _) _
  have haX := ha.below hX
  have hbX := hb.below hX
  have x0 : (w.alloc (.cells #[.slice b p.length cb, .int .i64 4, .string (digS sc)] 58)).cell? ⟨w.heap.size, 0, none⟩ = some (.slice b p.length cb) := cellB R0 rfl
  have x2 : (w.alloc (.cells #[.slice b p.length cb, .int .i64 4, .string (digS sc)] 58)).cell? ⟨w.heap.size, 2, none⟩ = some (.string (digS sc)) := cellB R0 rfl
  generalize hXe : w.alloc (.cells #[.slice b p.length cb, .int .i64 4, .string (digS sc)] 58) = X at *
  have HX := show Hid _ from hXe
  have hp0 : ¬ (p.length : Int) < 2 := by omega
  have hpn : decide (p.length < 2) = false := decide_eq_false (by omega)
  clear hXe R0 ha hb hR rT hres hW hV I0 hno hne1 hTL hVN hln
  go_enter Try.func44, Try.ntmps44
  go_upto_region 1 with fail
  rw [HX.out]
  go_upto_region 2 with (first | (go_at_call 19; refine (hRp _).mono ?_; rintro e w1 ⟨aT, cT, rfl, hb1, hT1, _⟩))
  have hYb : Below w1.heap.size w1 (w1.alloc (.cells #[.slice aT TL.length cT, .string fl] 32)) := (Below.refl _ _).alloc (Nat.le_refl _) _
  have y0 : (w1.alloc (.cells #[.slice aT TL.length cT, .string fl] 32)).cell? ⟨w1.heap.size, 0, none⟩ = some (.slice aT TL.length cT) := cellB (heap_alloc_new _ _) rfl
  have hb1Y := hb1.trans (hYb.mono hb1.size)
  have x0Y := cell_later hb1Y x0
  have x2Y := cell_later hb1Y x2
  have hTY := hT1.below hYb
  generalize w1.alloc (.cells #[.slice aT TL.length cT, .string fl] 32) = Y at *
  go_upto_region 3 with (first | (go_at_call 18; refine (hRs _).mono ?_; rintro e Z ⟨rfl, hbZ⟩))
  have hXZ := hb1Y.trans (hbZ.mono hb1Y.size)
  have x0Z := cell_later hbZ x0Y
  have y0Z := cell_later hbZ y0
  have hTZ := hTY.below hbZ
  have haZ := haX.below hXZ
  have hbZ' := hbX.below hXZ
  have hwZ := hX.trans (hXZ.mono hX.size)
  clear hRp hRs x0 x2 x0Y x2Y y0 hT1 hTY haX hbX hX hb1 hYb
  go_wp2
  go_loopw [15] (fun y wr => ∃ i : Nat, i ≤ p.length ∧ y = .int .i64 (i : Int) ∧ Below Z.heap.size Z wr) (fun y _ => p.length - (intOf y).toNat)
  case atStart => exact ⟨0, Nat.zero_le _, rfl, Below.refl _ _⟩
  case round =>
    obtain ⟨i, hi, rfl, hBr⟩ := hrel
    by_cases hil : i < p.length
    · obtain ⟨z, hz⟩ := get_some p i hil
      obtain ⟨x, hx⟩ := get_some la z (hin z (List.mem_of_getElem? hz))
      have hzl := (List.getElem?_eq_some_iff.1 hx).1
      have hxo := hok x (List.mem_of_getElem? hx)
      have hml : (i + 1) % p.length < p.length := Nat.mod_lt _ (by omega)
      obtain ⟨z2, hz2⟩ := get_some p ((i + 1) % p.length) hml
      obtain ⟨y, hy⟩ := get_some la z2 (hin z2 (List.mem_of_getElem? hz2))
      have hz2l := (List.getElem?_eq_some_iff.1 hy).1
      have haR := haZ.below hBr
      have hbR := hbZ'.below hBr
      obtain ⟨g, o, e1, s1⟩ := hbR i (z : Int) (by simp [intN, hz])
      subst e1
      obtain ⟨g1, o1, e1, s2⟩ := hbR ((i + 1) % p.length) (z2 : Int) (by simp [intN, hz2])
      cases e1
      obtain ⟨G, e2, c0, c1, c2, c3, c4⟩ := haR z x hx
      subst e2
      obtain ⟨G1, e2, d0, _, _, _, _⟩ := haR z2 y hy
      cases e2
      obtain ⟨gT, e3, t0, t1, t2, t3, tlt⟩ := HTh.out wr aT (hTZ.below hBr) i hil
      subst e3
      have hLt := HLt.out i hil
      rw [pAt_get hz, aqOf_get hx] at t0 t1 t2 t3 tlt hLt
      rw [pAt_get hz2, aqOf_get hy] at t3
      have x0R := cell_later hBr x0Z
      have y0R := cell_later hBr y0Z
      have hDg := fun w => digit_any x.th w (by have := hxo.th; omega)
      have hLe := fun w => letter_dig x.th (by have := hxo.th; omega) ms2 (by omega) hms2 w
      rw [hLt] at hLe
      have i0 : (0 : Int) ≤ (i : Int) := by omega
      have il : (i : Int) < (p.length : Int) := by omega
      have z00 : (0 : Int) ≤ (z : Int) := by omega
      have z01 : ¬ (z : Int) < 0 := by omega
      have zl : (z : Int) < (la.length : Int) := by omega
      have zd : decide (la.length ≤ z) = false := decide_eq_false (by omega)
      have zD : decide ((la.length : Int) ≤ (z : Int)) = false := decide_eq_false (by omega)
      have z20 : (0 : Int) ≤ (z2 : Int) := by omega
      have z21 : ¬ (z2 : Int) < 0 := by omega
      have z2l : (z2 : Int) < (la.length : Int) := by omega
      have z2d : decide (la.length ≤ z2) = false := decide_eq_false (by omega)
      have z2D : decide ((la.length : Int) ≤ (z2 : Int)) = false := decide_eq_false (by omega)
      have th0 : (0 : Int) ≤ (x.th : Int) := by omega
      have th1 : ¬ (x.th : Int) < 0 := by omega
      have thl : (x.th : Int) < (TL.length : Int) := by have := HLN.out; omega
      have thd : decide (TL.length ≤ x.th) = false := decide_eq_false (by have := HLN.out; omega)
      have thD : decide ((TL.length : Int) ≤ (x.th : Int)) = false := decide_eq_false (by have := HLN.out; omega)
      have n0 : (0 : Int) < (p.length : Int) := by omega
      have hne : ((p.length : Int) == 0) = false := beq_false_of_ne (by omega)
      have hmo : ((i : Int) + 1).tmod (p.length : Int) = (((i + 1) % p.length : Nat) : Int) := by
        rw [show ((i : Int) + 1) = ((i + 1 : Nat) : Int) by omega, Int.ofNat_tmod]
      generalize (i + 1) % p.length = mi at *
      have mi0 : (0 : Int) ≤ (mi : Int) := by omega
      have mil : (mi : Int) < (p.length : Int) := by omega
      generalize evI x.ev = vx at *
      clear hz hx hz2 hy HTh HLt hLt haR hbR
      go_upto_region 10 with fail
      go_quiet (fail)
      go_upto_region 13 with fail
      have hUb := below_drewN wr nq
      have hBU := hBr.trans (hUb.mono hBr.size)
      have q0 := cell_later hUb c0
      have q1 := cell_later hUb c1
      have q2 := cell_later hUb c2
      have q3 := cell_later hUb c3
      have q4 := cell_later hUb c4
      have yU := cell_later hUb y0R
      have t0U := cell_later hUb t0
      have t1U := cell_later hUb t1
      have t2U := cell_later hUb t2
      have t3U := cell_later hUb t3
      have d0U := cell_later hUb d0
      clear c0 c1 c2 c3 c4 y0R t0 t1 t2 t3 d0 x0R s1 s2 hUb
      generalize wr.drewN nq = U at *
      have hAb : Below U.heap.size U (U.alloc (.cells #[.int .i64 x.th, .int .i64 x.pl, .string (letS 97 [x.k]), .string (letS 97 x.hl), .int .i64 vx] 42)) := (Below.refl _ _).alloc (Nat.le_refl _) _
      have hAn := heap_alloc_new U (.cells #[.int .i64 x.th, .int .i64 x.pl, .string (letS 97 [x.k]), .string (letS 97 x.hl), .int .i64 vx] 42)
      have yA := cell_later hAb yU
      have t0A := cell_later hAb t0U
      have t1A := cell_later hAb t1U
      have t2A := cell_later hAb t2U
      have t3A := cell_later hAb t3U
      have d0A := cell_later hAb d0U
      have b0 : (U.alloc (.cells #[.int .i64 x.th, .int .i64 x.pl, .string (letS 97 [x.k]), .string (letS 97 x.hl), .int .i64 vx] 42)).cell? ⟨U.heap.size, 0, none⟩ = some (.int .i64 x.th) := cellB hAn rfl
      generalize hAe : U.alloc (.cells #[.int .i64 x.th, .int .i64 x.pl, .string (letS 97 [x.k]), .string (letS 97 x.hl), .int .i64 vx] 42) = Ya at *
      have HAe := show Hid _ from hAe
      have hTb : Below Ya.heap.size Ya (Ya.alloc (.cells #[.int .i64 2, .int .i64 (x.pl : Int), .string (letS 97 x.hl), .int .i64 (y.th : Int)] 64)) := (Below.refl _ _).alloc (Nat.le_refl _) _
      have hTn := heap_alloc_new Ya (.cells #[.int .i64 2, .int .i64 (x.pl : Int), .string (letS 97 x.hl), .int .i64 (y.th : Int)] 64)
      have f0 : (Ya.alloc (.cells #[.int .i64 2, .int .i64 (x.pl : Int), .string (letS 97 x.hl), .int .i64 (y.th : Int)] 64)).cell? ⟨U.heap.size, 0, none⟩ = some (.int .i64 x.th) := cell_later hTb b0
      have f1 : (Ya.alloc (.cells #[.int .i64 2, .int .i64 (x.pl : Int), .string (letS 97 x.hl), .int .i64 (y.th : Int)] 64)).cell? ⟨U.heap.size, 1, none⟩ = some (.int .i64 x.pl) := cell_later hTb (cellB hAn rfl)
      have f3 : (Ya.alloc (.cells #[.int .i64 2, .int .i64 (x.pl : Int), .string (letS 97 x.hl), .int .i64 (y.th : Int)] 64)).cell? ⟨U.heap.size, 3, none⟩ = some (.string (letS 97 x.hl)) := cell_later hTb (cellB hAn rfl)
      have k0 : (Ya.alloc (.cells #[.int .i64 2, .int .i64 (x.pl : Int), .string (letS 97 x.hl), .int .i64 (y.th : Int)] 64)).cell? ⟨Ya.heap.size, 0, none⟩ = some (.int .i64 2) := cellB hTn rfl
      have k1 : (Ya.alloc (.cells #[.int .i64 2, .int .i64 (x.pl : Int), .string (letS 97 x.hl), .int .i64 (y.th : Int)] 64)).cell? ⟨Ya.heap.size, 1, none⟩ = some (.int .i64 (x.pl : Int)) := cellB hTn rfl
      have k2 : (Ya.alloc (.cells #[.int .i64 2, .int .i64 (x.pl : Int), .string (letS 97 x.hl), .int .i64 (y.th : Int)] 64)).cell? ⟨Ya.heap.size, 2, none⟩ = some (.string (letS 97 x.hl)) := cellB hTn rfl
      have k3 : (Ya.alloc (.cells #[.int .i64 2, .int .i64 (x.pl : Int), .string (letS 97 x.hl), .int .i64 (y.th : Int)] 64)).cell? ⟨Ya.heap.size, 3, none⟩ = some (.int .i64 (y.th : Int)) := cellB hTn rfl
      have d0B := cell_later hTb d0A
      have hUB := hAb.trans (hTb.mono hAb.size)
      generalize hTe : Ya.alloc (.cells #[.int .i64 2, .int .i64 (x.pl : Int), .string (letS 97 x.hl), .int .i64 (y.th : Int)] 64) = Yb at *
      have HTe := show Hid _ from hTe
      have hBB := hBU.trans (hUB.mono hBU.size)
      clear hAe hTe hAn hTn hAb hTb yU t0U t1U t2U t3U d0U d0A
      go_upto_region 14 with fail
      rw [HAe.out]
      go_upto_region 17 with fail
      rw [HTe.out]
      go_quiet (fail)
      go_wp2_with (first
        | (go_at_call 69; refine (hDg _).mono ?_; rintro e w5 ⟨rfl, hb5⟩)
        | (go_at_call 70; refine (hLe _).mono ?_; rintro e w6 ⟨rfl, hw6⟩; have hw7 := hw6.symm; clear hw6; subst hw7))
      go_roundw
      case rel => exact ⟨i + 1, by omega, by go_num, hBB.trans ((below_of_drewN hb5).mono hBB.size)⟩
      case measure => (simp [intOf] <;> omega)
    · have il : ¬ (i : Int) < (p.length : Int) := by omega
      go_wp2
      go_ret
      exact ⟨rfl, hwZ.trans (hBr.mono hwZ.size)⟩
end Go.Proofs.Ytdfndcbakcmgiaa
namespace Go.Proofs.Ytdfndcbakcmgiaa
open Go.RowKit

theorem findS_circ (la : List Aq) (most : Nat) : ∀ p ∈ (findS la most).1, CircP la p := by
  intro p hp
  have hs : (findS la most).1 = ([2, 3, 4, 5].flatMap fun n => dfs la n []).take most := by rw [findS_add]; rfl
  rw [hs] at hp
  obtain ⟨n, hn, hp⟩ := List.mem_flatMap.1 (List.mem_of_mem_take hp)
  have hn2 : 2 ≤ n ∧ n ≤ 5 := by simp at hn; omega
  rw [← chn_dfs la n (by omega)] at hp
  exact circB_iff.1 (List.mem_filter.1 hp).2
theorem judgeV_cases (log : List Ev) (ring : List Aq) : ((judgeV log ring).1 ≠ 4 ∧ 1 ≤ (judgeV log ring).1 ∧ (judgeV log ring).1 ≤ 4 ∧ (judgeV log ring).2 = []) ∨
    ((judgeV log ring).1 = 4 ∧ boundB ring (closeF log (aheadL (log.map mvE) ring)) = false ∧ (judgeV log ring).2 = thsE (log.map mvE) (closeF log (aheadL (log.map mvE) ring))) := by
  unfold judgeV
  split
  · exact .inl (by simp)
  · split
    · exact .inl (by simp)
    · split
      · exact .inl (by simp)
      · rename_i h
        exact .inr ⟨rfl, by simpa using h, rfl⟩
/-- What 'held' is asked of. -/
def HeldOk (s picks : ByteArray) (la : List Aq) (x : Rp) : Prop :=
  ∀ (w : World) (a : Option Addr) (ca : Nat), AqsAt w a la → ∀ (b : Option Addr) (cb : Nat), IntsAt w b (intN x.asks) →
    Calls Try.prog 44 #[.string s, .slice a la.length ca, .agg #[.slice b x.asks.length cb, .int .i64 4, .string (digS x.sc)], .string picks] w fun e w' => e = .returned (.bool true) ∧ Below w.heap.size w w'
theorem held_ok (s picks : ByteArray) (h0 : (ckP s).1 = 0) {ms : List Nat} {WE : Wd} (h : goL (beginW (thLoop s 0 0 [])) ms = some WE) (hl : WE.log.length ≤ 60) (hL : LogOk WE) (hn5 : WE.prog.length ≤ 5) (hok : ∀ x ∈ aqsW WE, x.Ok) (p : List Nat) (hp : p ∈ (findS (aqsW WE) 100).1) (hv : (rpOf WE.log (aqsW WE) p).vd = 4) : HeldOk s picks (aqsW WE) (rpOf WE.log (aqsW WE) p) := by
  obtain ⟨hp5, hp2, hpi⟩ := findS_in _ _ p hp
  rcases judgeV_cases WE.log (ringOf (aqsW WE) p) with ⟨h1, _⟩ | ⟨_, hb, hs⟩
  · exact absurd hv h1
  · obtain ⟨V, hV, IV, _, hR⟩ := sure_ring (thLoop s 0 0 []) (begin_inv s h0) h hl p hpi (findS_circ _ _ p hp) hb
    have hsc : ∀ t ∈ (rpOf WE.log (aqsW WE) p).sc, t ≤ 100 := fun t ht => by
      have ht' : t ∈ thsE (WE.log.map mvE) (closeF WE.log (aheadL (WE.log.map mvE) (ringOf (aqsW WE) p))) := by rw [← hs]; exact ht
      obtain ⟨i, _, rfl⟩ := List.mem_map.1 ht'
      cases hv : (WE.log.map mvE)[i]? with
      | none => simp
      | some v =>
        rw [List.getElem?_map, Option.map_eq_some_iff] at hv
        obtain ⟨e, he, rfl⟩ := hv
        obtain ⟨u, hu, hu5⟩ := (hL e (List.mem_of_getElem? he)).th
        simp only [Option.map_some, Option.getD_some, mvE, hu]
        omega
    intro w a ca ha b cb hbI
    refine held_any s picks h0 (aqsW WE) hok p hp2 hp5 hpi (rpOf WE.log (aqsW WE) p).sc hsc ?_ V ?_ IV hR w a ca ha b cb hbI
    · show (judgeV WE.log (ringOf (aqsW WE) p)).2.length ≤ 1000
      rw [hs, thsE, List.length_map]
      have := closeF_len WE.log (aheadL (WE.log.map mvE) (ringOf (aqsW WE) p))
      omega
    · show goL _ (judgeV WE.log (ringOf (aqsW WE) p)).2 = some V
      rw [hs]; exact hV

theorem Rings_out (s picks : ByteArray) (how : Int) (after : ByteArray) (w : World) (h : (ckP s).1 ≠ 0) :
    Calls Try.prog 13 #[.string s, .string picks, .int .i64 how, .string after] w fun e w' => e = .returned (.bool true) ∧ Below w.heap.size w w' := by
  have hIs := fun w => isProgram_no s picks w h
  go_enter Try.func13, Try.ntmps13
  go_wp2_with (first
    | (go_at_call 35; refine (hIs _).mono ?_; rintro e w1 ⟨rfl, hb1⟩))
  go_ret
  exact ⟨rfl, hb1⟩

set_option maxRecDepth 100000 in
set_option maxHeartbeats 1000000 in
theorem Rings_in (s picks : ByteArray) (how : Int) (hw0 : -9223372036854775808 ≤ how) (hw1 : how ≤ 9223372036854775807) (after : ByteArray) (w : World) (h0 : (ckP s).1 = 0) :
    Calls Try.prog 13 #[.string s, .string picks, .int .i64 how, .string after] w fun e w' => e = .returned (.bool true) ∧ Below w.heap.size w w' := by
  have I0 := begin_inv s h0
  obtain ⟨ms, hend, WE, hr⟩ := runs_ex picks _ (beginW (thLoop s 0 0 [])) 0 I0 rfl
  have hlen := hr.len I0
  have hsm := hr.small I0.good.n5
  have hE := hr.ends I0
  have hto0 : toLoop ⟨#[]⟩ (beginW (thLoop s 0 0 [])) 0 = some (beginW (thLoop s 0 0 [])) := by rw [toLoop, if_neg (by simp [ByteArray.size])]
  have hV : resumeV s ⟨#[]⟩ picks = .tuple #[.string (digS ms), .int .i64 hend, .int .i64 0] := by
    rw [resumeV, if_neg (by rw [h0]; decide), hto0]
    simp only [hr.resumeL 61 [] rfl (by omega), List.nil_append]
  have hRun := fun w => run_any s picks w
  rw [hV] at hRun
  have hIs := fun w => isProgram_yes s picks (digS ms) hend w h0 hV hE.range.1 hE.range.2
  have hPk := fun w => pick_any how hw0 hw1 (ms.length + 1) (by omega) (by omega) w
  have HPre : Hid (∀ k, k ≤ ms.length → ∃ W, goL (beginW (thLoop s 0 0 [])) (ms.take k) = some W ∧ toLoop (digS (ms.take k)) (beginW (thLoop s 0 0 [])) 0 = some W) := fun k hk => by
    obtain ⟨W, h1, _⟩ := hr.rest k hk
    exact ⟨W, h1, by rw [toLoop_dig _ I0 _ (fun t ht => by have := hsm t (List.mem_of_mem_take ht); omega)]; exact h1⟩
  have hods := digS_size ms
  have HML : Hid (((ms.length + 1 : Nat) : Int) = (ms.length : Int) + 1) := by rw [Hid]; omega
  rw [HML.out] at hPk
  have HI0 : Hid ((beginW (thLoop s 0 0 [])).Inv) := I0
  clear hV hr hsm hE hto0 I0
  go_enter Try.func13, Try.ntmps13
  go_upto_region 5 with (first
    | (go_at_call 35; refine (hIs _).mono ?_; rintro e w1 ⟨rfl, hb1⟩)
    | (go_at_call 16; refine (hRun _).mono ?_; rintro e w2 ⟨rfl, hb2⟩))
  have hB2 := hb1.trans (hb2.mono hb1.size)
  clear hIs hRun
  go_upto_region 6 with (first
    | (go_at_call 40; refine (hPk _).mono ?_; rintro e w3 ⟨⟨r, hr, rfl⟩, hw⟩; have hw2 := hw.symm; clear hw; subst hw2; obtain ⟨k, hk⟩ : ∃ k, ms.length - r = k := ⟨_, rfl⟩; have hkI : (ms.length : Int) - (r : Int) = (k : Int) := (by omega); have hk0 : (0 : Int) ≤ (k : Int) := (by omega); have hkl : (k : Int) ≤ (ms.length : Int) := (by omega); have hx0 := digS_take ms k; have HK := show Hid _ from hk; clear hk))
  obtain ⟨W, hg, hto⟩ := HPre.out k (by omega)
  have hszk : (digS (ms.take k)).size ≤ maxLen := by rw [digS_size]; unfold maxLen; simp; omega
  have hAs := fun w => asks_ok s (digS (ms.take k)) hszk w h0 W hto
  have hPr : ∀ w, Calls Try.prog 31 #[.string s, .string (digS (ms.take k)), .int .i64 100] w fun e w' => ∃ v us, e = .returned (.tuple #[v, .bool (findS (aqsW W) 100).2, .int .i64 0]) ∧ Below w.heap.size w w' ∧ v.ownBlock ≠ none ∧ RepsIn w' w.heap.size v ((findS (aqsW W) 100).1.map (rpOf W.log (aqsW W))) us := fun w => predict_ok s (digS (ms.take k)) hszk 100 (Nat.le_refl _) w h0 W hto
  obtain ⟨IW, _⟩ := toLoop_inv (digS (ms.take k)) _ 0 _ W rfl HI0.out hto
  have hLO := toLoop_logOk (digS (ms.take k)) _ 0 _ W rfl HI0.out (begin_logOk _) hto
  have AW := askW_to h0 hto
  have hok : ∀ x ∈ aqsW W, x.Ok := fun x hx => (aqsW_ok AW IW.good.n5 IW.small x hx).1
  have hak := aqsW_ak AW
  have HRL : Hid (∀ x ∈ (findS (aqsW W) 100).1.map (rpOf W.log (aqsW W)), (1 ≤ x.vd ∧ x.vd ≤ 4) ∧ (x.vd ≠ 4 → x.sc = []) ∧ (x.vd = 4 → HeldOk s after (aqsW W) x)) := fun x hx => by
    obtain ⟨p, hp, rfl⟩ := List.mem_map.1 hx
    refine ⟨?_, fun hne => ?_, fun hv => held_ok s after h0 hg IW.small hLO IW.good.n5 hok p hp hv⟩
    · rcases judgeV_cases W.log (ringOf (aqsW W) p) with ⟨_, h1, h2, _⟩ | ⟨h1, _⟩
      · exact ⟨h1, h2⟩
      · show 1 ≤ (judgeV W.log (ringOf (aqsW W) p)).1 ∧ (judgeV W.log (ringOf (aqsW W) p)).1 ≤ 4
        rw [h1]; decide
    · rcases judgeV_cases W.log (ringOf (aqsW W) p) with ⟨_, _, _, h2⟩ | ⟨h1, _⟩
      · exact h2
      · exact absurd h1 hne
  have hRLl : ((findS (aqsW W) 100).1.map (rpOf W.log (aqsW W))).length ≤ 100 := by rw [List.length_map]; exact findS_ok _ _
  have hlal : (aqsW W).length = (asksW W).length := by rw [← hak, List.length_map]
  rw [← hlal, ← hak] at hAs
  generalize (findS (aqsW W) 100).1.map (rpOf W.log (aqsW W)) = RL at *
  generalize (findS (aqsW W) 100).2 = mo at *
  generalize aqsW W = la at *
  clear hlal hak AW hLO IW hg hto HPre HI0 hszk
  go_upto_region 7 with (first | (go_at_call 22; refine (hAs _).mono ?_; rintro e w4 ⟨ga, ca, rfl, hb4, ho4⟩))
  have ha4 : AqsAt w4 (some ⟨ga, 0, none⟩) la := aqsAt_of (aksAt_row (l := la.map Aq.ak) rfl ho4)
  go_upto_region 8 with (first | (go_at_call 31; refine (hPr _).mono ?_; rintro e w5 ⟨v, us, rfl, hb5, hvn, hR5⟩))
  obtain ⟨gv, cv, hv2⟩ := row_form (hR5.fam.own (List.mem_cons_self ..)) hvn
  have hv3 : v = .slice (some ⟨gv, 0, none⟩) RL.length cv := hv2
  subst hv3
  have hrp := reps_at rfl hR5
  have ha5 := ha4.below hb5
  have hB4 := hB2.trans (hb4.mono hB2.size)
  have hB5 := hB4.trans (hb5.mono hB4.size)
  clear hAs hPr hR5 hvn hv2 ho4 ha4 hPk
  go_wp2
  go_loopw [19] (fun y wr => ∃ i : Nat, i ≤ RL.length ∧ y = .int .i64 (i : Int) ∧ Below w5.heap.size w5 wr) (fun y _ => RL.length - (intOf y).toNat)
  case atStart => exact ⟨0, Nat.zero_le _, rfl, Below.refl _ _⟩
  case round =>
    obtain ⟨i, hi, rfl, hBr⟩ := hrel
    by_cases hil : i < RL.length
    · obtain ⟨x, hx⟩ := get_some RL i hil
      obtain ⟨⟨hv1, hv4⟩, hvs, hvh⟩ := HRL.out x (List.mem_of_getElem? hx)
      obtain ⟨G, b, cb, e1, c0, c1, c2, cI, _⟩ := (hrp.below hBr) i x hx
      simp only [Option.some.injEq, Addr.mk.injEq, and_true] at e1
      subst e1
      have i0 : (0 : Int) ≤ (i : Int) := by omega
      have il : (i : Int) < (RL.length : Int) := by omega
      have n1 : ¬ x.vd < 1 := by omega
      have n4 : ¬ 4 < x.vd := by omega
      have d1 : decide (x.vd < 1) = false := decide_eq_false n1
      have d4 : decide (4 < x.vd) = false := decide_eq_false n4
      have hbb : Below wr.heap.size wr (wr.alloc (.cells #[.slice b x.asks.length cb, .int .i64 x.vd, .string (digS x.sc)] 58)) := (Below.refl _ _).alloc (Nat.le_refl _) _
      have hbn := heap_alloc_new wr (.cells #[.slice b x.asks.length cb, .int .i64 x.vd, .string (digS x.sc)] 58)
      have haB := (ha5.below hBr).below hbb
      have hIB := cI.below hbb
      have hBB := hBr.trans (hbb.mono hBr.size)
      have HVH : Hid (x.vd = 4 → HeldOk s after la x) := hvh
      have HVS : Hid (x.vd ≠ 4 → x.sc = []) := hvs
      clear hx hvs hvh hrp
      by_cases h4 : x.vd = 4
      · have hH := HVH.out h4 _ _ ca haB b cb hIB
        have p0 : (wr.alloc (.cells #[.slice b x.asks.length cb, .int .i64 x.vd, .string (digS x.sc)] 58)).cell? ⟨wr.heap.size, 0, none⟩ = some (.slice b x.asks.length cb) := cellB hbn rfl
        have p1 : (wr.alloc (.cells #[.slice b x.asks.length cb, .int .i64 x.vd, .string (digS x.sc)] 58)).cell? ⟨wr.heap.size, 1, none⟩ = some (.int .i64 x.vd) := cellB hbn rfl
        have p2 : (wr.alloc (.cells #[.slice b x.asks.length cb, .int .i64 x.vd, .string (digS x.sc)] 58)).cell? ⟨wr.heap.size, 2, none⟩ = some (.string (digS x.sc)) := cellB hbn rfl
        generalize hbe : wr.alloc (.cells #[.slice b x.asks.length cb, .int .i64 x.vd, .string (digS x.sc)] 58) = Z at *
        have HBE := show Hid _ from hbe
        obtain ⟨xa, xv, xs⟩ := x
        simp only at *
        subst h4
        clear hbe hbn hbb
        go_upto_region 14 with fail
        rw [HBE.out]
        go_wp2_with (first | (go_at_call 44; refine hH.mono ?_; rintro e w7 ⟨rfl, hb7⟩))
        go_roundw
        case rel => exact ⟨i + 1, by omega, by go_num, hBB.trans (hb7.mono hBB.size)⟩
        case measure => (simp [intOf] <;> omega)
      · have hsc := HVS.out h4
        have hne4 : (x.vd != 4) = true := by simpa using h4
        have hnb4 : (x.vd == 4) = false := beq_false_of_ne h4
        obtain ⟨xa, xv, xs⟩ := x
        simp only at *
        subst hsc
        have hdn : digS [] = ⟨#[]⟩ := rfl
        rw [hdn] at c2 hBB
        clear hbb hbn haB hIB HVH HVS
        go_wp2
        go_roundw
        case rel => exact ⟨i + 1, by omega, by go_num, hBB⟩
        case measure => (simp [intOf] <;> omega)
    · have il : ¬ (i : Int) < (RL.length : Int) := by omega
      go_wp2
      go_ret
      exact ⟨rfl, hB5.trans (hBr.mono hB5.size)⟩
end Go.Proofs.Ytdfndcbakcmgiaa
