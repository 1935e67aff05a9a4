import Derived.Test.YtdfndcbakcmgiaaU1
import Derived.Test.YtdfndcbakcmgiaaU6
namespace Go.Proofs.Ytdfndcbakcmgiaa
open Go.RowKit

/-! The reference: does a lock stand among some? -/
theorem atFrom_let (l : List Nat) (h6 : ∀ x ∈ l, x < 6) (k : Nat) (hk : k < 6) : ∀ d j, l.length - j = d → (0 ≤ atFrom (letS 97 l) (UInt8.ofNat (97 + k)) j ↔ k ∈ l.drop j) := by
  intro d
  induction d with
  | zero =>
    intro j hj
    rw [atFrom, dif_neg (by rw [letS_size]; omega), List.drop_eq_nil_of_le (by omega)]
    simp
  | succ d ih =>
    intro j hj
    have hjl : j < l.length := by omega
    obtain ⟨x, hx⟩ := get_some l j hjl
    have hx6 := h6 x (List.mem_of_getElem? hx)
    have hsz : j < (letS 97 l).size := by rw [letS_size]; exact hjl
    have hat := letS_at l j x hx hx6 hsz
    have hdr : l.drop j = x :: l.drop (j + 1) := by
      obtain ⟨_, rfl⟩ := List.getElem?_eq_some_iff.1 hx
      exact List.drop_eq_getElem_cons hjl
    rw [atFrom, dif_pos hsz, hdr, List.mem_cons]
    have hc : ((UInt8.ofNat (97 + k)).toNat : Int) = 97 + k := by rw [UInt8.toNat_ofNat']; omega
    by_cases he : k = x
    · rw [if_pos (u8_eq.2 (by rw [hat, hc, he]))]
      constructor
      · intro _; exact .inl he
      · intro _; omega
    · rw [if_neg (fun h => he (by have := u8_eq.1 h; rw [hat, hc] at this; omega)), ih (j + 1) (by omega)]
      constructor
      · exact .inr
      · rintro (h | h)
        · exact absurd h he
        · exact h

set_option maxRecDepth 100000 in
set_option maxHeartbeats 2000000 in
theorem among_any (k : Nat) (hk : k < 6) (l : List Nat) (hl : l.length ≤ 100) (h6 : ∀ x ∈ l, x < 6) (w : World) :
    Calls Try.prog 98 #[.string (letS 97 [k]), .string (letS 97 l)] w fun e w' => e = .returned (.bool (decide (k ∈ l))) ∧ w' = w := by
  have hsz : (letS 97 [k]).size = 1 := rfl
  have hat := letS_at [k] 0 k rfl hk (by rw [hsz]; omega)
  have hA := fun w => at_n (letS 97 l) (97 + (k : Int)) w (by omega) (by omega) (by rw [letS_size]; omega)
  have hiff := atFrom_let l h6 k hk _ 0 rfl
  have he : UInt8.ofNat (97 + (k : Int)).toNat = UInt8.ofNat (97 + k) := by congr 1
  rw [List.drop_zero, ← he] at hiff
  have hd : decide (0 ≤ atI (letS 97 l) (97 + (k : Int))) = decide (k ∈ l) := decide_eq_decide.2 hiff
  generalize atI (letS 97 l) (97 + (k : Int)) = q at *
  clear hiff he
  go_enter Try.func98, Try.ntmps98
  go_wp2_with (first | (go_at_call 77; refine (hA _).mono ?_; rintro e w2 ⟨rfl, hw⟩; have hw2 := hw.symm; clear hw; subst hw2))
  go_ret
  exact ⟨by simp, rfl⟩

/-! The last event of a thread below n. -/
def lastI (o : Option Nat) : Int := match o with
  | none => -1
  | some i => i

set_option maxRecDepth 100000 in
set_option maxHeartbeats 4000000 in
theorem lastOf_any (p : Nat) (W : Wd) (w : World) {gP cP gB cB gL cL gH cH gS cS : Nat} {aG : Option Addr} {cG : Nat} (h : WIn w p W gP cP gB cB gL cL gH cH gS cS aG cG) (hL : LogOk W) (hl : W.log.length ≤ 60) (t n : Nat) (hn : n ≤ W.log.length) (tI nI : Int) (htI : tI = t) (hnI : nI = n) :
    Calls Try.prog 101 #[.pointer (some ⟨p, 0, none⟩), .int .i64 tI, .int .i64 nI] w fun e w' => e = .returned (.int .i64 (lastI (lastN (W.log.map mvE) t n))) ∧ w' = w := by
  subst htI hnI
  have fG := h.fG
  generalize hres : lastI (lastN (W.log.map mvE) t n) = res
  have HR : Hid (lastI (lastN (W.log.map mvE) t n) = res) := hres
  clear hres
  go_enter Try.func101, Try.ntmps101
  go_wp2
  go_loopw [7] (fun x wr => ∃ c : Nat, c ≤ n ∧ x = .int .i64 ((c : Int) - 1) ∧ Hid (lastI (lastN (W.log.map mvE) t c) = res) ∧ wr = w) (fun x _ => (intOf x + 1).toNat)
  case atStart => exact ⟨n, Nat.le_refl _, rfl, HR, rfl⟩
  case round =>
    obtain ⟨c, hc, rfl, HE, rfl⟩ := hrel
    clear HR
    cases c with
    | zero =>
      have hr : res = -1 := by have h := HE.out; exact h.symm
      subst hr
      clear HE
      go_wp2
      go_ret
      exact ⟨rfl, rfl⟩
    | succ c =>
      have hcI : ((c + 1 : Nat) : Int) - 1 = (c : Int) := by omega
      rw [hcI]
      obtain ⟨b, hb⟩ := get_some W.log c (by omega)
      obtain ⟨g, hg, hcc⟩ := h.cG' (by intro e; rw [e] at hb; simp at hb)
      subst hg
      obtain ⟨b0, _, _, _⟩ := hcc c b hb
      rw [Nat.mul_comm 4 c] at b0
      obtain ⟨bt, hbt, hb5⟩ := (hL b (List.mem_of_getElem? hb)).th
      rw [hbt] at b0
      have c0 : (0 : Int) ≤ (c : Int) := by omega
      have cl : (c : Int) < (W.log.length : Int) := by omega
      have HE1 : Hid ((if bt = t then (c : Int) else lastI (lastN (W.log.map mvE) t c)) = res) := by
        have h := HE.out
        rw [lastN, List.getElem?_map, hb] at h
        rw [Hid, ← h]
        have : (mvE b).th = bt := by rw [mvE, hbt]; rfl
        by_cases hh : bt = t
        · rw [if_pos hh]; simp [this, hh, lastI]
        · rw [if_neg hh]; simp [this, hh]
      clear HE hb hcc
      by_cases hh : bt = t
      · have hr : res = c := by have h := HE1.out; rw [if_pos hh] at h; exact h.symm
        subst hr hh
        clear HE1
        go_wp2
        go_ret
        exact ⟨rfl, rfl⟩
      · have HN : Hid (lastI (lastN (W.log.map mvE) t c) = res) := by have h := HE1.out; rw [if_neg hh] at h; exact h
        have hne : ((bt : Int) == (t : Int)) = false := beq_false_of_ne (by omega)
        clear HE1
        go_wp2
        go_roundw
        case rel => exact ⟨c, by omega, rfl, HN, trivial⟩
        case measure => (simp [intOf] <;> omega)
end Go.Proofs.Ytdfndcbakcmgiaa
namespace Go.Proofs.Ytdfndcbakcmgiaa
open Go.RowKit

/-! The reference's gate. -/
def gateB (ring : List Aq) : Bool := (List.range 6).any fun k => decide (1 < ring.countP fun x => decide (k ∈ x.hl))
theorem count_two {P : Aq → Bool} : ∀ (l : List Aq), (1 < l.countP P ↔ ¬ l.Pairwise fun x y => ¬ (P x = true ∧ P y = true))
  | [] => by simp
  | x :: l => by
    rw [List.pairwise_cons, List.countP_cons]
    have ih := count_two (P := P) l
    by_cases hx : P x = true
    · rw [if_pos hx]
      have : (0 < l.countP P) ↔ ¬ ∀ y ∈ l, ¬ (P x = true ∧ P y = true) := by
        rw [List.countP_pos_iff]
        constructor
        · rintro ⟨y, hy, h⟩ hh; exact hh y hy ⟨hx, h⟩
        · intro h
          apply Classical.byContradiction
          intro hh
          exact h fun y hy ⟨_, h2⟩ => hh ⟨y, hy, h2⟩
      constructor
      · intro h ⟨h1, _⟩
        exact this.1 (by omega) h1
      · intro h
        have : 0 < l.countP P := by
          apply Classical.byContradiction
          intro h0
          have hz : l.countP P = 0 := by omega
          refine h ⟨?_, ?_⟩
          · exact Classical.byContradiction fun hh => h0 (this.2 hh)
          · exact Classical.byContradiction fun hh => by have := ih.2 hh; omega
        omega
    · rw [if_neg hx, Nat.add_zero, ih]
      constructor
      · intro h ⟨_, h2⟩; exact h h2
      · intro h h2; exact h ⟨fun y _ ⟨h3, _⟩ => hx h3, h2⟩
theorem gate_eq (ring : List Aq) (h6 : ∀ x ∈ ring, ∀ k ∈ x.hl, k < 6) : gateB ring = gatedB ring := by
  rw [Bool.eq_iff_iff, gateB, gatedB, List.any_eq_true]
  simp only [decide_eq_true_eq, List.mem_range, Bool.not_eq_true', decide_eq_false_iff_not]
  constructor
  · rintro ⟨k, hk, h⟩ hP
    refine (count_two ring).1 h ?_
    refine List.Pairwise.imp ?_ hP
    rintro x y hs ⟨h1, h2⟩
    rw [shareB, decide_eq_false_iff_not] at hs
    exact hs ⟨k, by simpa using h2, by simpa using h1⟩
  · intro hP
    apply Classical.byContradiction
    intro hh
    apply hP
    have hall : ∀ k, k < 6 → ring.Pairwise fun x y => ¬ (decide (k ∈ x.hl) = true ∧ decide (k ∈ y.hl) = true) := fun k hk =>
      Classical.byContradiction fun h => hh ⟨k, hk, (count_two ring).2 h⟩
    rw [List.pairwise_iff_getElem]
    intro i j hi hj hij
    rw [shareB, decide_eq_false_iff_not]
    rintro ⟨k, h1, h2⟩
    have hk := h6 _ (List.getElem_mem hi) k h2
    exact List.pairwise_iff_getElem.1 (hall k hk) i j hi hj hij ⟨by simpa using h2, by simpa using h1⟩

def ringOf (la : List Aq) (p : List Nat) : List Aq := p.map (aqOf la)
theorem ringOf_take (la : List Aq) (p : List Nat) (i k : Nat) (h : p[i]? = some k) : ringOf la (p.take (i + 1)) = ringOf la (p.take i) ++ [aqOf la k] := by
  rw [ringOf, List.take_add_one, h]; simp [ringOf]

set_option maxRecDepth 100000 in
set_option maxHeartbeats 4000000 in
theorem gate_any (a b : Option Addr) (ca cb : Nat) (la : List Aq) (hok : ∀ x ∈ la, x.Ok) (p : List Nat) (hp : p.length ≤ 100) (hin : ∀ i ∈ p, i < la.length) (np : Nat) (hnp : np = p.length) (w : World) (ha : AqsAt w a la) (hb : IntsAt w b (intN p)) :
    Calls Try.prog 99 #[.slice a la.length ca, .slice b np cb] w fun e w' => e = .returned (.bool (gateB (ringOf la p))) ∧ ∃ m, w' = w.drewN m := by
  subst hnp
  go_enter Try.func99, Try.ntmps99
  go_wp2
  go_loopw [5] (fun y wr => ∃ k : Nat, k ≤ 6 ∧ y = .int .i64 (k : Int) ∧ Hid (∀ j, j < k → ¬ 1 < (ringOf la p).countP fun x => decide (j ∈ x.hl)) ∧ ∃ m, wr = w.drewN m) (fun y _ => 6 - (intOf y).toNat)
  case atStart => exact ⟨0, Nat.zero_le _, rfl, fun j hj => absurd hj (by omega), 0, rfl⟩
  case round =>
    obtain ⟨k, hk, rfl, HN, m, rfl⟩ := hrel
    by_cases hk6 : k < 6
    · have k0 : (0 : Int) ≤ (k : Int) := by omega
      have kl : (k : Int) < 6 := by omega
      go_wp2
      go_loopw [6, 7] (fun c y wq => ∃ i : Nat, i ≤ p.length ∧ y = .int .i64 (i : Int) ∧ c = .int .i64 (((ringOf la (p.take i)).countP fun x => decide (k ∈ x.hl) : Nat) : Int) ∧ ∃ m, wq = w.drewN m) (fun _ y _ => p.length - (intOf y).toNat)
      case atStart => exact ⟨0, Nat.zero_le _, rfl, rfl, m, rfl⟩
      case round =>
        obtain ⟨i, hi, rfl, rfl, m2, hq⟩ := hrel
        have HQ : Hid (wr = w.drewN m2) := hq
        clear hq
        have hcl : (ringOf la (p.take i)).countP (fun x => decide (k ∈ x.hl)) ≤ 100 := by
          refine Nat.le_trans List.countP_le_length ?_
          simp [ringOf]; omega
        by_cases hil : i < p.length
        · obtain ⟨z, hz⟩ := get_some p i hil
          have hzl := hin z (List.mem_of_getElem? hz)
          obtain ⟨x, hx⟩ := get_some la z hzl
          have hxo := hok x (List.mem_of_getElem? hx)
          obtain ⟨g, o, e1, c1⟩ := hb i (z : Int) (by simp [intN, hz])
          subst e1
          obtain ⟨g2, e2, _, _, _, d3, _⟩ := ha z x hx
          subst e2
          have c1q : wr.cell? ⟨g, o + i, none⟩ = some (.int .i64 (z : Int)) := by rw [HQ.out]; exact c1
          have d3q : wr.cell? ⟨g2, z * 5 + 3, none⟩ = some (.string (letS 97 x.hl)) := by rw [HQ.out]; exact d3
          have i0 : (0 : Int) ≤ (i : Int) := by omega
          have il : (i : Int) < (p.length : Int) := by omega
          have z0 : (0 : Int) ≤ (z : Int) := by omega
          have zl : (z : Int) < (la.length : Int) := by omega
          have hAm := fun w => among_any k hk6 x.hl (by have := hxo.len; omega) hxo.hl w
          have hex : (⟨#[97, 98, 99, 100, 101, 102]⟩ : ByteArray).extract k (k + 1) = letS 97 [k] := lock_let k hk6
          have HC : Hid ((ringOf la (p.take (i + 1))).countP (fun x => decide (k ∈ x.hl)) = (ringOf la (p.take i)).countP (fun x => decide (k ∈ x.hl)) + if decide (k ∈ x.hl) = true then 1 else 0) := by
            rw [Hid, ringOf_take la p i z hz, List.countP_append, aqOf_get hx]
            simp [List.countP_cons]
          generalize hcn : (ringOf la (p.take i)).countP (fun x => decide (k ∈ x.hl)) = cn at *
          generalize decide (k ∈ x.hl) = d at *
          clear hz hx hcn
          cases d with
          | true =>
            go_upto_region 8 with fail
            go_quiet (first | (go_at_call 98; exact Calls.quiet_of_same (hAm _)))
            go_wp2
            go_roundw
            case rel => exact ⟨i + 1, by omega, by go_num, by rw [HC.out]; simp, by rw [HQ.out]; exact (by first | exact dN1 | exact dN2)⟩
            case measure => (simp [intOf] <;> omega)
          | false =>
            go_upto_region 8 with fail
            go_quiet (first | (go_at_call 98; exact Calls.quiet_of_same (hAm _)))
            go_wp2
            go_roundw
            case rel => exact ⟨i + 1, by omega, by go_num, by rw [HC.out]; simp, by rw [HQ.out]; exact (by first | exact dN1 | exact dN2)⟩
            case measure => (simp [intOf] <;> omega)
        · have il : ¬ (i : Int) < (p.length : Int) := by omega
          have hpi : p.take i = p := by rw [show i = p.length by omega, List.take_length]
          rw [hpi] at hcl ⊢
          by_cases h1 : 1 < (ringOf la p).countP fun x => decide (k ∈ x.hl)
          · have HD : Hid (gateB (ringOf la p) = true) := by
              rw [Hid, gateB, List.any_eq_true]
              exact ⟨k, List.mem_range.2 hk6, decide_eq_true h1⟩
            generalize (ringOf la p).countP (fun x => decide (k ∈ x.hl)) = cn at *
            have h1I : (1 : Int) < (cn : Int) := by omega
            go_wp2
            go_ret
            exact ⟨by rw [HD.out]; rfl, by rw [HQ.out]; exact (by first | exact dN1 | exact dN2)⟩
          · have HN2 : Hid (∀ j, j < k + 1 → ¬ 1 < (ringOf la p).countP fun x => decide (j ∈ x.hl)) := fun j hj => by
              by_cases hjk : j = k
              · rw [hjk]; exact h1
              · exact HN.out j (by omega)
            clear HN
            generalize (ringOf la p).countP (fun x => decide (k ∈ x.hl)) = cn at *
            have h1I : ¬ (1 : Int) < (cn : Int) := by omega
            go_wp2
            go_roundw
            case rel => exact ⟨k + 1, by omega, by go_num, HN2, by rw [HQ.out]; exact (by first | exact dN1 | exact dN2)⟩
            case measure => (simp [intOf] <;> omega)
    · have kl : ¬ (k : Int) < 6 := by omega
      have HD : Hid (gateB (ringOf la p) = false) := by
        have h := HN.out
        rw [Hid, gateB, Bool.eq_false_iff]
        intro hh
        rw [List.any_eq_true] at hh
        obtain ⟨j, hj, hh⟩ := hh
        exact h j (by have := List.mem_range.1 hj; omega) (of_decide_eq_true hh)
      go_wp2
      go_ret
      exact ⟨by rw [HD.out]; rfl, (by first | exact dN1 | exact dN2)⟩
end Go.Proofs.Ytdfndcbakcmgiaa
namespace Go.Proofs.Ytdfndcbakcmgiaa
open Go.RowKit

/-! The reference's ordered. -/
def yvQ (log : List Ev) (y : Aq) : Option Nat := match y.ev with
  | some m => some m
  | none => lastN (log.map mvE) y.th log.length
def oRB (log : List Ev) (x y : Aq) : Bool := match x.ev with
  | none => false
  | some e => match yvQ log y with
    | none => false
    | some q => (aheadR log q)[e]?.getD false
theorem lastN_len {l : List Mv} {t n i : Nat} (h : lastN l t n = some i) : i < n := (lastN_lt' h).1
  where lastN_lt' : ∀ {n i : Nat}, lastN l t n = some i → i < n ∧ True
  | 0, i, h => by simp [lastN] at h
  | n + 1, i, h => by
    rw [lastN] at h
    split at h
    · cases h; exact ⟨by omega, trivial⟩
    · have := lastN_lt' h; exact ⟨by omega, trivial⟩
theorem bf_same (log : List Ev) (i j : Nat) (hj : j < log.length) (hl : log.length ≤ 60) : bfL (log.map mvE) i j = (aheadR log j)[i]?.getD false := by
  rw [before_same log i j hj hl, bfL, ldL_lead, Int.toNat_natCast, Int.toNat_natCast, List.length_map]
  congr 1
  exact decide_eq_decide.2 ⟨fun h => by omega, fun h => ⟨by omega, by omega, by omega⟩⟩
theorem bf_neg (l : List Mv) (j : Int) : bfL l (-1) j = false := by
  rw [bfL, decide_eq_false (by omega)]; rfl
theorem cAB_eq (log : List Ev) (hl : log.length ≤ 60) (x y : Aq) (hy : ∀ m, y.ev = some m → m < log.length) : cAB (log.map mvE) x y = oRB log x y := by
  unfold cAB oRB yvQ lastQ toN
  rw [List.length_map]
  cases hx : x.ev with
  | none =>
    cases hy' : y.ev with
    | none =>
      simp only [evI]
      split
      · rfl
      · exact bf_neg _ _
    | some m => exact bf_neg _ _
  | some e =>
    cases hy' : y.ev with
    | none =>
      simp only [evI]
      cases hq : lastN (log.map mvE) y.th log.length with
      | none => rfl
      | some q => exact bf_same log e q (lastN_len hq) hl
    | some m => exact bf_same log e m (hy m hy') hl
theorem cAB_self (l : List Mv) (x : Aq) : cAB l x x = false := by
  unfold cAB
  cases hx : x.ev with
  | none =>
    simp only [evI]
    split
    · rfl
    · exact bf_neg _ _
  | some m => simp only [evI]; rw [bfL, decide_eq_false (by omega)]; rfl
/-- Of two different places of a path. -/
def ordR (log : List Ev) (ring : List Aq) : Prop := ∃ (i j : Nat) (x y : Aq), i ≠ j ∧ ring[i]? = some x ∧ ring[j]? = some y ∧ oRB log x y = true
theorem ordR_iff (log : List Ev) (hl : log.length ≤ 60) (ring : List Aq) (hev : ∀ x ∈ ring, ∀ m, x.ev = some m → m < log.length) : ordR log ring ↔ orderedB (log.map mvE) ring = true := by
  rw [orderedB, List.any_eq_true]
  constructor
  · rintro ⟨i, j, x, y, _, hx, hy, h⟩
    refine ⟨x, List.mem_of_getElem? hx, ?_⟩
    rw [List.any_eq_true]
    exact ⟨y, List.mem_of_getElem? hy, by rw [cAB_eq log hl x y (hev y (List.mem_of_getElem? hy))]; exact h⟩
  · rintro ⟨x, hx, h⟩
    rw [List.any_eq_true] at h
    obtain ⟨y, hy, h⟩ := h
    obtain ⟨i, hi⟩ := List.getElem?_of_mem hx
    obtain ⟨j, hj⟩ := List.getElem?_of_mem hy
    by_cases hij : i = j
    · subst hij
      rw [hi] at hj
      cases hj
      rw [cAB_self] at h
      cases h
    · exact ⟨i, j, x, y, hij, hi, hj, by rw [← cAB_eq log hl x y (hev y hy)]; exact h⟩
end Go.Proofs.Ytdfndcbakcmgiaa
namespace Go.Proofs.Ytdfndcbakcmgiaa
open Go.RowKit

theorem oRB_none {log : List Ev} {x y : Aq} (h : x.ev = none) : oRB log x y = false := by rw [oRB, h]
theorem oRB_some {log : List Ev} {x y : Aq} {e q : Nat} (h : x.ev = some e) (hq : yvQ log y = some q) : oRB log x y = (aheadR log q)[e]?.getD false := by rw [oRB, h]; simp only [hq]
theorem oRB_no {log : List Ev} {x y : Aq} (hq : yvQ log y = none) : oRB log x y = false := by
  rw [oRB]
  cases x.ev with
  | none => rfl
  | some e => simp only [hq]

set_option maxRecDepth 100000 in
set_option maxHeartbeats 8000000 in
theorem refOrdered_any (pw : Nat) (W : Wd) (w : World) {gP cP gB cB gL cL gH cH gS cS : Nat} {aG : Option Addr} {cG : Nat} (h : WIn w pw W gP cP gB cB gL cL gH cH gS cS aG cG) (hn5 : W.prog.length ≤ 5) (hL : LogOk W) (hl : W.log.length ≤ 60)
    (a b : Option Addr) (ca cb : Nat) (la : List Aq) (hev : ∀ x ∈ la, ∀ m, x.ev = some m → m < W.log.length) (p : List Nat) (hp : p.length ≤ 100) (hin : ∀ i ∈ p, i < la.length) (np : Nat) (hnp : np = p.length) (ha : AqsAt w a la) (hb : IntsAt w b (intN p)) (r : Bool) (hr : r = true ↔ ordR W.log (ringOf la p)) :
    Calls Try.prog 100 #[.pointer (some ⟨pw, 0, none⟩), .slice a la.length ca, .slice b np cb] w fun e w' => e = .returned (.bool r) ∧ Below w.heap.size w w' := by
  subst hnp
  have HRT : Hid (∀ (i j : Nat) (x y : Aq), i ≠ j → (ringOf la p)[i]? = some x → (ringOf la p)[j]? = some y → oRB W.log x y = true → r = true) := fun i j x y h1 h2 h3 h4 => hr.2 ⟨i, j, x, y, h1, h2, h3, h4⟩
  have HRF : Hid ((∀ (i j : Nat) (x y : Aq), i < p.length → j < p.length → i ≠ j → (ringOf la p)[i]? = some x → (ringOf la p)[j]? = some y → oRB W.log x y = false) → r = false) := fun hh => by
    cases hc : r with
    | false => rfl
    | true =>
      obtain ⟨i, j, x, y, h1, h2, h3, h4⟩ := hr.1 hc
      have hi := (List.getElem?_eq_some_iff.1 h2).1
      have hj := (List.getElem?_eq_some_iff.1 h3).1
      rw [ringOf, List.length_map] at hi hj
      rw [hh i j x y hi hj h1 h2 h3] at h4
      cases h4
  clear hr
  have HG : Hid (∀ (i : Nat) (k : Nat) (x : Aq), p[i]? = some k → la[k]? = some x → (ringOf la p)[i]? = some x) := fun i k x h1 h2 => by rw [ringOf, List.getElem?_map, h1, Option.map_some, aqOf_get h2]
  have hLo := fun w' (h' : WIn w' pw W gP cP gB cB gL cL gH cH gS cS aG cG) (t : Nat) => lastOf_any pw W w' h' hL hl t W.log.length (Nat.le_refl _) t W.log.length rfl rfl
  have hAh := fun w' (h' : WIn w' pw W gP cP gB cB gL cL gH cH gS cS aG cG) (j : Nat) (hj : j < W.log.length) => ahead_any pw j W w' h' hn5 hL hj hl j rfl
  go_enter Try.func100, Try.ntmps100
  go_wp2
  go_loopw [7] (fun y wr => ∃ i : Nat, i ≤ p.length ∧ y = .int .i64 (i : Int) ∧ Hid (∀ (i' j : Nat) (x y : Aq), i' < i → j < p.length → i' ≠ j → (ringOf la p)[i']? = some x → (ringOf la p)[j]? = some y → oRB W.log x y = false) ∧ Below w.heap.size w wr) (fun y _ => p.length - (intOf y).toNat)
  case atStart => exact ⟨0, Nat.zero_le _, rfl, fun i' j x y h1 => absurd h1 (by omega), Below.refl _ _⟩
  case round =>
    obtain ⟨i, hi, rfl, HN, hBr⟩ := hrel
    by_cases hil : i < p.length
    · obtain ⟨k, hk⟩ := get_some p i hil
      have hkl := hin k (List.mem_of_getElem? hk)
      obtain ⟨x, hx⟩ := get_some la k hkl
      have hxr := HG.out i k x hk hx
      obtain ⟨g, o, e1, c1⟩ := hb i (k : Int) (by simp [intN, hk])
      subst e1
      obtain ⟨g2, e2, _, _, _, _, d4⟩ := ha k x hx
      subst e2
      have c1r := cell_later hBr c1
      have d4r := cell_later hBr d4
      have i0 : (0 : Int) ≤ (i : Int) := by omega
      have il : (i : Int) < (p.length : Int) := by omega
      have k0 : (0 : Int) ≤ (k : Int) := by omega
      have kl : (k : Int) < (la.length : Int) := by omega
      have hxe := hev x (List.mem_of_getElem? hx)
      have HN2 : Hid ((∀ (j : Nat) (y : Aq), j < p.length → i ≠ j → (ringOf la p)[j]? = some y → oRB W.log x y = false) → ∀ (i' j : Nat) (x y : Aq), i' < i + 1 → j < p.length → i' ≠ j → (ringOf la p)[i']? = some x → (ringOf la p)[j]? = some y → oRB W.log x y = false) := by
        intro hh i' j x' y h1 h2 h3 h4 h5
        by_cases hii : i' = i
        · subst hii
          rw [hxr] at h4
          cases h4
          exact hh j y h2 h3 h5
        · exact HN.out i' j x' y (by omega) h2 h3 h4 h5
      clear hk hx HN
      cases hxv : x.ev with
      | none =>
        rw [hxv] at d4r
        have hm1 : evI none = -1 := rfl
        rw [hm1] at d4r
        have HN3 := HN2.out fun j y _ _ _ => oRB_none hxv
        have HN4 : Hid (∀ (i' j : Nat) (x y : Aq), i' < i + 1 → j < p.length → i' ≠ j → (ringOf la p)[i']? = some x → (ringOf la p)[j]? = some y → oRB W.log x y = false) := HN3
        clear HN3 HN2 hm1
        go_wp2
        go_loopw [9] (fun y wq => y = .int .i64 (0 : Int) ∧ Below w.heap.size w wq) (fun y _ => 0)
        case atStart => exact ⟨rfl, hBr⟩
        case round =>
          obtain ⟨rfl, hBq⟩ := hrel
          have p0 : (0 : Int) < (p.length : Int) := by omega
          go_wp2
          go_roundw
          case rel => exact ⟨i + 1, by omega, by go_num, HN4, hBq⟩
          case measure => (simp [intOf] <;> omega)
      | some e =>
        rw [hxv] at d4r
        have hm1 : evI (some e) = (e : Int) := rfl
        rw [hm1] at d4r
        have hxe := hxe e hxv
        have e0 : (0 : Int) ≤ (e : Int) := by omega
        have el : (e : Int) < (W.log.length : Int) := by omega
        clear hm1
        go_wp2
        go_loopw [9] (fun y wq => ∃ j : Nat, j ≤ p.length ∧ y = .int .i64 (j : Int) ∧ Hid (∀ (j' : Nat) (y : Aq), j' < j → i ≠ j' → (ringOf la p)[j']? = some y → oRB W.log x y = false) ∧ Below w.heap.size w wq) (fun y _ => p.length - (intOf y).toNat)
        case atStart => exact ⟨0, Nat.zero_le _, rfl, fun j' y h1 => absurd h1 (by omega), hBr⟩
        case round =>
          obtain ⟨j, hj, rfl, HM, hBq⟩ := hrel
          by_cases hjl : j < p.length
          · obtain ⟨k2, hk2⟩ := get_some p j hjl
            have hk2l := hin k2 (List.mem_of_getElem? hk2)
            obtain ⟨y, hy⟩ := get_some la k2 hk2l
            have hyr := HG.out j k2 y hk2 hy
            have hye := hev y (List.mem_of_getElem? hy)
            obtain ⟨g3, o3, e3, c3⟩ := hb j (k2 : Int) (by simp [intN, hk2])
            simp only [Option.some.injEq, Addr.mk.injEq, and_true] at e3
            obtain ⟨rfl, rfl⟩ := e3
            obtain ⟨g4, e4, f0, _, _, _, f4⟩ := ha k2 y hy
            simp only [Option.some.injEq, Addr.mk.injEq, and_true] at e4
            subst e4
            have c3q := cell_later hBq c3
            have f0q := cell_later hBq f0
            have f4q := cell_later hBq f4
            have hWr := h.below hBq
            have fGq := hWr.fG
            have j0 : (0 : Int) ≤ (j : Int) := by omega
            have jl : (j : Int) < (p.length : Int) := by omega
            have k20 : (0 : Int) ≤ (k2 : Int) := by omega
            have k2l : (k2 : Int) < (la.length : Int) := by omega
            have HMs : Hid ((i ≠ j → oRB W.log x y = false) → ∀ (j' : Nat) (y : Aq), j' < j + 1 → i ≠ j' → (ringOf la p)[j']? = some y → oRB W.log x y = false) := by
              intro hh j' y' h1 h2 h3
              by_cases hjj : j' = j
              · subst hjj
                rw [hyr] at h3
                cases h3
                exact hh h2
              · exact HM.out j' y' (by omega) h2 h3
            clear hk2 hy HM c3 f0 f4 c1r d4r
            cases hyv : y.ev with
            | some q =>
              have hyq : yvQ W.log y = some q := by rw [yvQ, hyv]
              have hql := hye q hyv
              rw [hyv] at f4q
              have hm2 : evI (some q) = (q : Int) := rfl
              rw [hm2] at f4q
              have qn : ¬ (q : Int) < 0 := by omega
              clear hm2 hye
              by_cases hij : i = j
              · have hijb : ((i : Int) != (j : Int)) = false := by rw [hij]; simp
                have HM2 := HMs.out (fun h => absurd hij h)
                clear HMs
                go_wp2
                go_roundw
                case rel => exact ⟨j + 1, by omega, by go_num, HM2, hBq⟩
                case measure => (simp [intOf] <;> omega)
              · have hijb : ((i : Int) != (j : Int)) = true := by simp; omega
                have hAq := fun w' h' => hAh w' h' q hql
                have q0 : (0 : Int) ≤ (q : Int) := by omega
                have hor := oRB_some (log := W.log) hxv hyq
                obtain ⟨bt, hbt⟩ : ∃ bt, (aheadR W.log q)[e]? = some bt := ⟨(aheadR W.log q)[e]'(by rw [aheadR_len]; exact hxe), by simp⟩
                rw [hbt, Option.getD_some] at hor
                have HBT : Hid ((aheadR W.log q)[e]? = some bt) := hbt
                clear hbt
                cases bt with
                | true =>
                  have hr : r = true := HRT.out i j x y hij hxr hyr hor
                  subst hr
                  clear HRT HRF HMs
                  go_wp2_with (first | (go_at_call 62; refine (hAq _ hWr).mono ?_; rintro e5 w5 ⟨g5, rfl, hb5, ho5⟩; have cb5 : w5.cell? ⟨g5, e, none⟩ = some (.bool true) := (by rw [ho5.cellAt e (by omega)]; simp [HBT.out])))
                  go_ret
                  exact ⟨rfl, hBq.trans (hb5.mono hBq.size)⟩
                | false =>
                  have HM2 := HMs.out (fun _ => hor)
                  clear HMs
                  go_wp2_with (first | (go_at_call 62; refine (hAq _ hWr).mono ?_; rintro e5 w5 ⟨g5, rfl, hb5, ho5⟩; have cb5 : w5.cell? ⟨g5, e, none⟩ = some (.bool false) := (by rw [ho5.cellAt e (by omega)]; simp [HBT.out])))
                  go_roundw
                  case rel => exact ⟨j + 1, by omega, by go_num, HM2, hBq.trans (hb5.mono hBq.size)⟩
                  case measure => (simp [intOf] <;> omega)
            | none =>
              rw [hyv] at f4q
              have hm2 : evI none = -1 := rfl
              rw [hm2] at f4q
              clear hm2 hye
              have hLy := fun w' h' => hLo w' h' y.th
              cases hq : lastN (W.log.map mvE) y.th W.log.length with
              | none =>
                have hyq : yvQ W.log y = none := by rw [yvQ, hyv]; exact hq
                rw [hq] at hLy
                have hm3 : lastI none = -1 := rfl
                rw [hm3] at hLy
                have HM2 := HMs.out (fun _ => oRB_no hyq)
                clear HMs hm3
                by_cases hij : i = j
                · have hijb : ((i : Int) != (j : Int)) = false := by rw [hij]; simp
                  go_upto_region 10 with fail
                  go_quiet (first | (go_at_call 101; exact Calls.quiet_of_same (hLy _ (hWr.below (below_drewN _ _)))))
                  go_wp2
                  go_roundw
                  case rel => exact ⟨j + 1, by omega, by go_num, HM2, hBq.trans ((below_drewN _ _).mono hBq.size)⟩
                  case measure => (simp [intOf] <;> omega)
                · have hijb : ((i : Int) != (j : Int)) = true := by simp; omega
                  go_upto_region 10 with fail
                  go_quiet (first | (go_at_call 101; exact Calls.quiet_of_same (hLy _ (hWr.below (below_drewN _ _)))))
                  go_wp2
                  go_roundw
                  case rel => exact ⟨j + 1, by omega, by go_num, HM2, hBq.trans ((below_drewN _ _).mono hBq.size)⟩
                  case measure => (simp [intOf] <;> omega)
              | some q =>
                have hyq : yvQ W.log y = some q := by rw [yvQ, hyv]; exact hq
                have hql := lastN_len hq
                rw [hq] at hLy
                have hm3 : lastI (some q) = (q : Int) := rfl
                rw [hm3] at hLy
                clear hm3
                by_cases hij : i = j
                · have hijb : ((i : Int) != (j : Int)) = false := by rw [hij]; simp
                  have HM2 := HMs.out (fun h => absurd hij h)
                  clear HMs
                  go_upto_region 10 with fail
                  go_quiet (first | (go_at_call 101; exact Calls.quiet_of_same (hLy _ (hWr.below (below_drewN _ _)))))
                  go_wp2
                  go_roundw
                  case rel => exact ⟨j + 1, by omega, by go_num, HM2, hBq.trans ((below_drewN _ _).mono hBq.size)⟩
                  case measure => (simp [intOf] <;> omega)
                · have hijb : ((i : Int) != (j : Int)) = true := by simp; omega
                  have hAq := fun w' h' => hAh w' h' q hql
                  have q0 : (0 : Int) ≤ (q : Int) := by omega
                  have hor := oRB_some (log := W.log) hxv hyq
                  obtain ⟨bt, hbt⟩ : ∃ bt, (aheadR W.log q)[e]? = some bt := ⟨(aheadR W.log q)[e]'(by rw [aheadR_len]; exact hxe), by simp⟩
                  rw [hbt, Option.getD_some] at hor
                  have HBT : Hid ((aheadR W.log q)[e]? = some bt) := hbt
                  clear hbt
                  cases bt with
                  | true =>
                    have hr : r = true := HRT.out i j x y hij hxr hyr hor
                    subst hr
                    clear HRT HRF HMs
                    go_upto_region 10 with fail
                    go_quiet (first | (go_at_call 101; exact Calls.quiet_of_same (hLy _ (hWr.below (below_drewN _ _)))))
                    go_wp2_with (first | (go_at_call 62; refine (hAq _ (hWr.below (below_drewN _ _))).mono ?_; rintro e5 w5 ⟨g5, rfl, hb5, ho5⟩; have cb5 : w5.cell? ⟨g5, e, none⟩ = some (.bool true) := (by rw [ho5.cellAt e (by omega)]; simp [HBT.out])))
                    go_ret
                    exact ⟨rfl, hBq.trans ((below_of_drewN hb5).mono hBq.size)⟩
                  | false =>
                    have HM2 := HMs.out (fun _ => hor)
                    clear HMs
                    go_upto_region 10 with fail
                    go_quiet (first | (go_at_call 101; exact Calls.quiet_of_same (hLy _ (hWr.below (below_drewN _ _)))))
                    go_wp2_with (first | (go_at_call 62; refine (hAq _ (hWr.below (below_drewN _ _))).mono ?_; rintro e5 w5 ⟨g5, rfl, hb5, ho5⟩; have cb5 : w5.cell? ⟨g5, e, none⟩ = some (.bool false) := (by rw [ho5.cellAt e (by omega)]; simp [HBT.out])))
                    go_roundw
                    case rel => exact ⟨j + 1, by omega, by go_num, HM2, hBq.trans ((below_of_drewN hb5).mono hBq.size)⟩
                    case measure => (simp [intOf] <;> omega)
          · have jl : ¬ (j : Int) < (p.length : Int) := by omega
            have HN3 := HN2.out fun j' y h1 h2 h3 => HM.out j' y (by omega) h2 h3
            have HN4 : Hid (∀ (i' j : Nat) (x y : Aq), i' < i + 1 → j < p.length → i' ≠ j → (ringOf la p)[i']? = some x → (ringOf la p)[j]? = some y → oRB W.log x y = false) := HN3
            clear HN3 HN2
            go_wp2
            go_roundw
            case rel => exact ⟨i + 1, by omega, by go_num, HN4, hBq⟩
            case measure => (simp [intOf] <;> omega)
    · have il : ¬ (i : Int) < (p.length : Int) := by omega
      have hr : r = false := HRF.out fun i' j x y h1 h2 h3 h4 h5 => HN.out i' j x y (by omega) h2 h3 h4 h5
      subst hr
      clear HRT HRF
      go_wp2
      go_ret
      exact ⟨rfl, hBr⟩
end Go.Proofs.Ytdfndcbakcmgiaa
