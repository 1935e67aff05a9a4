import Derived.Test.YtdfndcbakcmgiaaDoorD7
namespace Go.Proofs.YtdfndcbakcmgiaaDoor
open Go.RowKit
attribute [local go_sem ↓] Go.wp_at_zero Go.wp_at_succ

/-- A move of thread t. -/
def moveT (W : Wd) (t : Nat) : Wd :=
  moveW W t (W.place[t]?.getD 0) (W.prog[t]?.getD []) ((W.prog[t]?.getD [])[W.place[t]?.getD 0]?.getD ⟨#[]⟩) (holdsOf W t)

structure Wd.Inv (W : Wd) : Prop where
  good : W.Good
  log : W.log.length ≤ W.place.sum

theorem sum_le : ∀ (l : List Nat) (m : Nat), (∀ x ∈ l, x ≤ m) → l.sum ≤ l.length * m
  | [], _, _ => by simp
  | a :: l, m, h => by
    have h1 := h a (List.mem_cons_self ..)
    have h2 := sum_le l m (fun x hx => h x (List.mem_cons_of_mem _ hx))
    simp only [List.sum_cons, List.length_cons, Nat.add_mul]
    omega
theorem Wd.Inv.small {W : Wd} (h : W.Inv) : W.log.length ≤ 60 := by
  have h1 : W.place.sum ≤ W.place.length * 12 := by
    refine sum_le _ _ ?_
    intro x hx
    obtain ⟨t, ht, hxt⟩ := List.getElem_of_mem hx
    obtain ⟨l, hl⟩ := get_some W.prog t (by rw [← h.good.ok.nl]; exact ht)
    have := h.good.pl t l x hl (by simp [ht, hxt])
    have := h.good.len t l hl
    omega
  have h2 := h.good.ok.nl
  have h3 := h.good.n5
  have h4 := h.log
  have : W.place.length * 12 ≤ 5 * 12 := Nat.mul_le_mul_right _ (by omega)
  omega
theorem sum_set : ∀ (l : List Nat) (t a : Nat) (n : Nat), l[t]? = some n → n < a → l.sum + 1 ≤ (l.set t a).sum
  | [], _, _, _, h, _ => by simp at h
  | x :: l, 0, a, n, h, ha => by
    simp at h
    simp only [List.set_cons_zero, List.sum_cons]
    omega
  | x :: l, t + 1, a, n, h, ha => by
    have := sum_set l t a n (by simpa using h) ha
    simp only [List.set_cons_succ, List.sum_cons]
    omega

theorem stepped_good {W : Wd} (G : W.Good) {t n : Nat} {l : List ByteArray} {d : ByteArray} (A : At W t n l d) (m : Nat) (hm : m ≤ l.length) (hs : ByteArray) : Wd.Good { stepped W t n d hs with place := W.place.set t m } where
  ok := ⟨G.ok.np, G.ok.nb, by simp [G.ok.nl, stepped], G.ok.nh, G.ok.ns⟩
  n5 := G.n5
  dok := G.dok
  pl := fun t' l' n' hl' hn' => by
    simp only [stepped] at hl' hn'
    rw [List.getElem?_set] at hn'
    split at hn'
    · rename_i e
      subst e
      split at hn'
      · simp only [Option.some.injEq] at hn'
        rw [A.prog] at hl'
        simp only [Option.some.injEq] at hl'
        rw [← hn', ← hl']; exact hm
      · simp at hn'
    · exact G.pl t' l' n' hl' hn'
  len := G.len
  has := G.has

theorem moveW_inv {W : Wd} (I : W.Inv) {t n : Nat} {l : List ByteArray} {d : ByteArray} (A : At W t n l d) (ht : t < W.prog.length) (hs : ByteArray) : (moveW W t n l d hs).Inv := by
  have G := I.good
  have hln : n < l.length := (List.getElem?_eq_some_iff.1 A.txt).1
  have G1 : Wd.Good (stepped W t n d hs) := stepped_good G A (n + 1) hln hs
  have hlog : (W.log ++ [(⟨t, n, d, hs⟩ : Ev)]).length ≤ (W.place.set t (n + 1)).sum := by
    have := sum_set W.place t (n + 1) n A.place (by omega)
    have := I.log
    simp; omega
  unfold moveW
  split
  · refine ⟨⟨⟨G1.ok.np, G1.ok.nb, G1.ok.nl, by simp [G.ok.nh], G1.ok.ns⟩, G1.n5, G1.dok, G1.pl, G1.len, ?_⟩, hlog⟩
    intro k u hu
    simp only [stepped] at hu ⊢
    rw [List.getElem?_set] at hu
    split at hu
    · split at hu
      · simp only [Option.some.injEq] at hu; omega
      · simp at hu
    · exact G.has k u hu
  split
  · refine ⟨⟨⟨G1.ok.np, G1.ok.nb, G1.ok.nl, by simp [G.ok.nh], G1.ok.ns⟩, G1.n5, G1.dok, G1.pl, G1.len, ?_⟩, hlog⟩
    intro k u hu
    simp only [stepped] at hu ⊢
    rw [List.getElem?_set] at hu
    split at hu
    · split at hu
      · simp at hu
      · simp at hu
    · exact G.has k u hu
  split
  · exact ⟨⟨⟨G1.ok.np, by simp [G.ok.nb, stepped], G1.ok.nl, G1.ok.nh, G1.ok.ns⟩, G1.n5, G1.dok, G1.pl, G1.len, G1.has⟩, hlog⟩
  split
  · exact ⟨⟨⟨G1.ok.np, G1.ok.nb, G1.ok.nl, G1.ok.nh, by simp [G.ok.ns]⟩, G1.n5, G1.dok, G1.pl, G1.len, G1.has⟩, hlog⟩
  split
  · exact ⟨⟨⟨G1.ok.np, G1.ok.nb, G1.ok.nl, G1.ok.nh, by simp [G.ok.ns]⟩, G1.n5, G1.dok, G1.pl, G1.len, G1.has⟩, hlog⟩
  split
  · refine ⟨stepped_good G A _ (Nat.min_le_right _ _) hs, ?_⟩
    have h1 := sum_set W.place t (min (n + 1 + (byteI d 2 - 48).toNat) l.length) n A.place (by omega)
    have h2 := I.log
    show (W.log ++ [(⟨t, n, d, hs⟩ : Ev)]).length ≤ _
    simp; omega
  · exact ⟨G1, hlog⟩

theorem moveT_at {W : Wd} {t n : Nat} {l : List ByteArray} {d : ByteArray} (A : At W t n l d) : moveT W t = moveW W t n l d (holdsOf W t) := by
  unfold moveT
  rw [A.place, A.prog]
  simp only [Option.getD_some]
  rw [A.txt]
  rfl

/-- A thread that is ready moves: the contract by what the world is. -/
theorem move_rep (B p t : Nat) (W : Wd) (w : World) (h : RepW w B p W) (I : W.Inv) (ht : t < W.prog.length) (hst : stateOf W t = 1) (hBw : B ≤ w.heap.size) (i : Int) (hi : i = t) :
    Calls Tryd.prog 27 #[.pointer (some ⟨p, 0, none⟩), .int .i64 i] w fun e w' => e = .returned (.tuple #[]) ∧ Below B w w' ∧ RepW w' B p (moveT W t) := by
  subst hi
  obtain ⟨n, l, d, A, _⟩ := stateOf_at W t (by omega) (by omega) I.good ht
  rw [moveT_at A]
  obtain ⟨v, inner, hl, hf⟩ := h
  obtain ⟨gP, cP, gB, cB, gL, cL, gH, cH, gS, cS, F⟩ := Fams.forms (x := v.G) hf I.good.ok
  exact move_any B p t W w v inner hf hl I.good F A ht hBw (by have := I.small; omega)
theorem moveT_inv {W : Wd} (I : W.Inv) {t : Nat} (ht : t < W.prog.length) (hst : stateOf W t = 1) : (moveT W t).Inv := by
  obtain ⟨n, l, d, A, _⟩ := stateOf_at W t (by omega) (by omega) I.good ht
  rw [moveT_at A]
  exact moveW_inv I A ht _
theorem moveT_prog (W : Wd) (t : Nat) : (moveT W t).prog = W.prog := by
  unfold moveT moveW
  repeat' split
  all_goals rfl

/-- Where a schedule leads, from place k on. -/
def toLoop (s : ByteArray) (W : Wd) (k : Nat) : Option Wd :=
  if k < s.size then
    if 48 ≤ byteI s k ∧ byteI s k < 58 ∧ byteI s k < 48 + W.prog.length ∧ stateOf W (byteI s k - 48).toNat = 1 then toLoop s (moveT W (byteI s k - 48).toNat) (k + 1) else none
  else some W
termination_by s.size - k

theorem State_rep (B p t : Nat) (W : Wd) (w : World) (h : RepW w B p W) (I : W.Inv) (ht : t < W.prog.length) (i : Int) (hi : i = t) :
    Calls Tryd.prog 26 #[.pointer (some ⟨p, 0, none⟩), .int .i64 i] w fun e w' => e = .returned (.int .i64 (stateOf W t)) ∧ Below w.heap.size w w' := by
  obtain ⟨_, _, _, _, _, _, _, _, _, _, _, _, hW⟩ := h.wIn I.good.ok
  exact State_any p t W w hW I.good ht i hi

set_option maxHeartbeats 4000000 in
set_option maxRecDepth 100000 in
theorem To_any (s sch : ByteArray) (w : World) (hs : s.size ≤ 160) (hsch : sch.size ≤ maxLen) (I0 : (beginW (thLoop s 0 0 [])).Inv) :
    Calls Tryd.prog 11 #[.string s, .string sch] w fun e w' => Below w.heap.size w w' ∧
      ((∃ W p, toLoop sch (beginW (thLoop s 0 0 [])) 0 = some W ∧ e = .returned (.tuple #[.pointer (some ⟨p, 0, none⟩), .bool true]) ∧ RepW w' w.heap.size p W ∧ W.Inv) ∨
       (toLoop sch (beginW (thLoop s 0 0 [])) 0 = none ∧ e = .returned (.tuple #[.pointer none, .bool false]))) := by
  unfold maxLen at hsch
  have hbeg := fun w => begin_any s w hs
  generalize beginW (thLoop s 0 0 []) = W0 at *
  go_enter Tryd.func11, Tryd.ntmps11
  go_wp2_with (go_at_call 9; refine (hbeg _).mono ?_; rintro e w1 ⟨p, rfl, hB1, hR1⟩; clear hbeg)
  go_loopw [7] (fun i wr => ∃ (k : Nat) (W : Wd), k ≤ sch.size ∧ i = .int .i64 k ∧ Hid (toLoop sch W0 0 = toLoop sch W k) ∧ W.Inv ∧ Below w.heap.size w wr ∧ RepW wr w.heap.size p W) (fun i _ => sch.size - (intOf i).toNat)
  case atStart => exact ⟨0, W0, Nat.zero_le _, rfl, rfl, I0, hB1, hR1⟩
  case round =>
    obtain ⟨k, W, hk, rfl, hh, I, hBr, hR⟩ := hrel
    clear hB1 hR1
    by_cases hlt : k < sch.size
    · have hh2 : Hid (toLoop sch W0 0 = if 48 ≤ byteI sch k ∧ byteI sch k < 58 ∧ byteI sch k < 48 + W.prog.length ∧ stateOf W (byteI sch k - 48).toNat = 1 then toLoop sch (moveT W (byteI sch k - 48).toNat) (k + 1) else none) := by
        rw [Hid, hh.out, toLoop, if_pos hlt]
      clear hh
      have hbk := byteI_in hlt
      have lo := byteI_lo sch k
      have hi := byteI_hi sch k
      by_cases hdig : 48 ≤ byteI sch k ∧ byteI sch k < 58
      · obtain ⟨t, ht⟩ : ∃ t : Nat, byteI sch k = 48 + t := ⟨(byteI sch k - 48).toNat, by omega⟩
        have et : (byteI sch k - 48).toNat = t := by omega
        rw [et] at hh2
        have e1 : atI ⟨#[48, 49, 50, 51, 52, 53, 54, 55, 56, 57]⟩ (48 + t) = t := by rw [atI_digit (by omega) (by omega), atR_yes (by omega) (by omega)]; omega
        have hb0 : (sch[k].toNat : Int) = 48 + t := by rw [hbk]; exact ht
        have hh3 : Hid (toLoop sch W0 0 = if t < W.prog.length ∧ stateOf W t = 1 then toLoop sch (moveT W t) (k + 1) else none) := by
          rw [Hid, hh2.out]
          by_cases hc : t < W.prog.length ∧ stateOf W t = 1
          · rw [if_pos ⟨hdig.1, hdig.2, by omega, hc.2⟩, if_pos hc]
          · rw [if_neg (fun h => hc ⟨by omega, h.2.2.2⟩), if_neg hc]
        have ht9 : t ≤ 9 := by omega
        clear hh2 hdig ht et hbk lo hi
        obtain ⟨gP, cP, gB, cB, gL, cL, gH, cH, gS, cS, aG, cG, hW⟩ := hR.wIn I.good.ok
        have fP := hW.fP
        clear hW
        by_cases htp : t < W.prog.length
        · have hst := State_rep _ p t W wr hR I htp t rfl
          by_cases h1 : stateOf W t = 1
          · rw [h1] at hst
            have hmv := fun wx (hx : Below wr.heap.size wr wx) => move_rep w.heap.size p t W wx (hR.below hx) I htp h1 (Nat.le_trans hBr.size hx.size) t rfl
            have hh4 : Hid (toLoop sch W0 0 = toLoop sch (moveT W t) (k + 1)) := by rw [Hid, hh3.out, if_pos ⟨htp, h1⟩]
            have I2 := moveT_inv I htp h1
            clear hh3 hR
            go_wp2_with (first
              | (go_at_call 25; refine (at_n _ _ _ (by omega) (by omega) (by decide)).mono ?_; rintro e w2 ⟨rfl, hw⟩; have hw2 := hw.symm; clear hw; subst hw2)
              | (go_at_call 26; refine hst.mono ?_; rintro e w3 ⟨rfl, hB3⟩)
              | (go_at_call 27; refine (hmv _ hB3).mono ?_; rintro e w4 ⟨rfl, hB4, hR4⟩))
            go_roundw
            case rel => exact ⟨k + 1, moveT W t, by omega, by go_num, hh4, I2, (hBr.trans (hB3.mono hBr.size)).trans hB4, hR4⟩
            case measure => simp [intOf]; omega
          · have b1 : (stateOf W t != 1) = true := by simpa using h1
            have hh4 : toLoop sch W0 0 = none := by rw [hh3.out, if_neg (fun h => h1 h.2)]
            have HH : Hid (toLoop sch W0 0 = none) := hh4
            clear hh3 hh4 hR
            generalize stateOf W t = st at *
            go_wp2_with (first
              | (go_at_call 25; refine (at_n _ _ _ (by omega) (by omega) (by decide)).mono ?_; rintro e w2 ⟨rfl, hw⟩; have hw2 := hw.symm; clear hw; subst hw2)
              | (go_at_call 26; refine hst.mono ?_; rintro e w3 ⟨rfl, hB3⟩))
            go_ret2
            exact ⟨hBr.trans (hB3.mono hBr.size), .inr ⟨HH.out, rfl⟩⟩
        · have hh4 : toLoop sch W0 0 = none := by rw [hh3.out, if_neg (fun h => htp h.1)]
          have HH : Hid (toLoop sch W0 0 = none) := hh4
          have n0 : ¬ ((t : Int) < 0) := by omega
          clear hh3 hh4 hR
          go_wp2_with (go_at_call 25; refine (at_n _ _ _ (by omega) (by omega) (by decide)).mono ?_; rintro e w2 ⟨rfl, hw⟩; have hw2 := hw.symm; clear hw; subst hw2)
          go_ret2
          exact ⟨hBr, .inr ⟨HH.out, rfl⟩⟩
      · have hh4 : toLoop sch W0 0 = none := by rw [hh2.out, if_neg (fun h => hdig ⟨h.1, h.2.1⟩)]
        have HH : Hid (toLoop sch W0 0 = none) := hh4
        have e1 : atI ⟨#[48, 49, 50, 51, 52, 53, 54, 55, 56, 57]⟩ (byteI sch k) = -1 := by rw [atI_digit (by omega) (by omega), atR_no (by omega)]
        clear hh2 hh4 hR
        go_wp2_with (go_at_call 25; refine (at_n _ _ _ (by omega) (by omega) (by decide)).mono ?_; rintro e w2 ⟨rfl, hw⟩; have hw2 := hw.symm; clear hw; subst hw2)
        go_ret2
        exact ⟨hBr, .inr ⟨HH.out, rfl⟩⟩
    · have hh2 : toLoop sch W0 0 = some W := by rw [hh.out, toLoop, if_neg hlt]
      have HH : Hid (toLoop sch W0 0 = some W) := hh2
      clear hh hh2
      go_wp2
      go_ret2
      exact ⟨hBr, .inl ⟨W, p, HH.out, rfl, hR, I⟩⟩
end Go.Proofs.YtdfndcbakcmgiaaDoor
namespace Go.Proofs.YtdfndcbakcmgiaaDoor
open Go.RowKit
attribute [local go_sem ↓] Go.wp_at_zero Go.wp_at_succ

/-! Digits as texts. -/
def digS (l : List Nat) : ByteArray := ⟨(l.map fun t => UInt8.ofNat (48 + t)).toArray⟩
theorem digS_size (l : List Nat) : (digS l).size = l.length := by simp [digS, ByteArray.size]
theorem digS_nil : digS [] = ⟨#[]⟩ := rfl
theorem digS_snoc (l : List Nat) (t : Nat) : digS l ++ nameS t = digS (l ++ [t]) := by
  apply ByteArray.ext
  simp [digS, nameS]
theorem digS_empty (l : List Nat) : (digS l).toList.isEmpty = l.isEmpty := by
  rw [ByteArray.toList_eq]
  cases l <;> simp [digS]
theorem digS_get (l : List Nat) (j : Nat) (h : j < (digS l).size) (hl : ∀ t ∈ l, t ≤ 100) : ((digS l)[j].toNat : Int) = 48 + (l[j]'(by rw [← digS_size]; exact h) : Nat) := by
  have hj : j < l.length := by rw [← digS_size]; exact h
  have e : (digS l)[j] = UInt8.ofNat (48 + l[j]) := by
    show (l.map fun t => UInt8.ofNat (48 + t)).toArray[j]'(by simpa using hj) = _
    simp
  rw [e, UInt8.toNat_ofNat']
  have := hl l[j] (by simp)
  omega

/-- The threads that may move, and whether some other waits, from thread t on. -/
def mayLoop (W : Wd) (t : Nat) (l : List Nat) (alive : Bool) : List Nat × Bool :=
  if t < W.prog.length then mayLoop W (t + 1) (if stateOf W t = 1 ∨ stateOf W t = 5 then l ++ [t] else l) (alive || decide (stateOf W t = 2) || decide (stateOf W t = 3)) else (l, alive)
termination_by W.prog.length - t

def resumeL (picks : ByteArray) : Nat → Wd → List Nat → List Nat × Int
  | 0, _, out => (out, 0)
  | fuel + 1, W, out =>
    if (mayLoop W 0 [] false).1 = [] then (out, if (mayLoop W 0 [] false).2 = true then 2 else 1)
    else if stateOf W ((mayLoop W 0 [] false).1.getD ((byteI picks out.length).toNat % (mayLoop W 0 [] false).1.length) 0) = 5 then (out, 3)
    else resumeL picks fuel (moveT W ((mayLoop W 0 [] false).1.getD ((byteI picks out.length).toNat % (mayLoop W 0 [] false).1.length) 0)) (out ++ [(mayLoop W 0 [] false).1.getD ((byteI picks out.length).toNat % (mayLoop W 0 [] false).1.length) 0])

theorem mayLoop_mem (W : Wd) : ∀ (n t : Nat) (l : List Nat) (a : Bool), W.prog.length - t = n → (∀ x ∈ l, x < W.prog.length ∧ (stateOf W x = 1 ∨ stateOf W x = 5)) → ∀ x ∈ (mayLoop W t l a).1, x < W.prog.length ∧ (stateOf W x = 1 ∨ stateOf W x = 5) := by
  intro n
  induction n with
  | zero => intro t l a hn hl; rw [mayLoop, if_neg (by omega)]; exact hl
  | succ n ih =>
    intro t l a hn hl
    rw [mayLoop, if_pos (by omega)]
    refine ih (t + 1) _ _ (by omega) ?_
    split
    · rename_i hc
      intro x hx
      rcases List.mem_append.1 hx with hx | hx
      · exact hl x hx
      · simp at hx; subst hx; exact ⟨by omega, hc⟩
    · exact hl

def strLen : Value → Nat | .string s => s.size | _ => 0
theorem moveT_log {W : Wd} (t : Nat) : (moveT W t).log.length = W.log.length + 1 := by
  unfold moveT moveW stepped
  repeat' split
  all_goals simp
end Go.Proofs.YtdfndcbakcmgiaaDoor
