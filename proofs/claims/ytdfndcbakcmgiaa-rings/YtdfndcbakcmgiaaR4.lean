import Derived.Test.YtdfndcbakcmgiaaR2
namespace Go.Proofs.Ytdfndcbakcmgiaa
open Go.RowKit

/-! The flag that an event asks for: who changed it last. -/
def oneF (u : Nat) : ByteArray := ⟨#[UInt8.ofNat (117 + u)]⟩
def twoF (c u : Nat) : ByteArray := ⟨#[UInt8.ofNat c, UInt8.ofNat (117 + u)]⟩
theorem twoF_b0 (c u : Nat) (h : c < 256) : byteI (twoF c u) 0 = c := by
  rw [← byteI_in (show 0 < (twoF c u).size by show 0 < 2; omega)]
  show ((UInt8.ofNat c).toNat : Int) = c
  rw [UInt8.toNat_ofNat']; omega
theorem twoF_b1 (c u : Nat) (h : u ≤ 100) : byteI (twoF c u) 1 = 117 + u := by
  rw [← byteI_in (show 1 < (twoF c u).size by show 1 < 2; omega)]
  show ((UInt8.ofNat (117 + u)).toNat : Int) = 117 + u
  rw [UInt8.toNat_ofNat']; omega
theorem flag_eq {n : Nat} {d : ByteArray} (h : DOk n d) (c kd u : Nat) (hc : (c = 33 ∧ kd = 3) ∨ (c = 126 ∧ kd = 4)) (hu : u < 6) : (d.toList == (twoF c u).toList) = decide ((stpOf d).kind = kd ∧ (stpOf d).which = u) := by
  have hk := stpOf_kd h
  by_cases he : d = twoF c u
  · have h0 : byteI d 0 = c := by rw [he, twoF_b0 _ _ (by omega)]
    have h1 : byteI d 1 = 117 + u := by rw [he, twoF_b1 _ _ (by omega)]
    have e : (d.toList == (twoF c u).toList) = true := by rw [he]; simp
    rw [e]
    generalize stpOf d = x at hk
    cases hk with
    | set v hv _ h1' => symm; simp; omega
    | clear v hv _ h1' => symm; simp; omega
    | _ => exfalso; omega
  · have e : (d.toList == (twoF c u).toList) = false := by
      refine beq_false_of_ne fun hh => he ?_
      rw [ByteArray.toList_eq, ByteArray.toList_eq] at hh
      apply ByteArray.ext
      exact Array.ext' hh
    rw [e]
    symm
    rw [decide_eq_false_iff_not]
    rintro ⟨h6, hw⟩
    apply he
    have hsz : ∀ (b : Int), byteI d 0 = b → (b = 33 ∨ b = 126) → d.size = 2 := fun b hb hbc => by rw [h.1, wid, if_pos (by omega)]
    generalize stpOf d = x at *
    cases hk with
    | set v hv h0 h1 =>
      simp only at hw h6
      have hvu : v = u := by omega
      have hc33 : c = 33 := by omega
      subst hvu hc33
      refine txt_eq (by rw [hsz _ h0 (.inl rfl)]; rfl) fun k hk => ?_
      rw [hsz _ h0 (.inl rfl)] at hk
      have : k = 0 ∨ k = 1 := by omega
      rcases this with rfl | rfl
      · rw [h0, twoF_b0 _ _ (by omega)]; rfl
      · rw [h1, twoF_b1 _ _ (by omega)]
    | clear v hv h0 h1 =>
      simp only at hw h6
      have hvu : v = u := by omega
      have hc33 : c = 126 := by omega
      subst hvu hc33
      refine txt_eq (by rw [hsz _ h0 (.inr rfl)]; rfl) fun k hk => ?_
      rw [hsz _ h0 (.inr rfl)] at hk
      have : k = 0 ∨ k = 1 := by omega
      rcases this with rfl | rfl
      · rw [h0, twoF_b0 _ _ (by omega)]; rfl
      · rw [h1, twoF_b1 _ _ (by omega)]
    | _ => simp at h6; omega
theorem ex_add (u : Nat) : (⟨#[33]⟩ : ByteArray) ++ oneF u = twoF 33 u := by
  apply ByteArray.ext
  simp [twoF, oneF]
theorem ti_add (u : Nat) : (⟨#[126]⟩ : ByteArray) ++ oneF u = twoF 126 u := by
  apply ByteArray.ext
  simp [twoF, oneF]
theorem byteI_ext1 {d : ByteArray} (hs : 2 ≤ d.size) (u : Nat) (h : byteI d 1 = 117 + u) (hu : u ≤ 100) : d.extract 1 2 = oneF u := by
  have h1 : (d.extract 1 2).size = 1 := by rw [ByteArray.size_extract]; omega
  refine txt_eq (by rw [h1]; rfl) fun k hk => ?_
  have hk0 : k = 0 := by omega
  subst hk0
  rw [byteI_extract d 1 2 0 hs, if_pos (by omega), h]
  rw [← byteI_in (show 0 < (oneF u).size by show 0 < 1; omega)]
  show (117 : Int) + u = ((UInt8.ofNat (117 + u)).toNat : Int)
  rw [UInt8.toNat_ofNat']; omega

/-- The last event below c that sets or clears flag u. -/
def flagL (log : List Ev) (u : Nat) : Nat → Int
  | 0 => -1
  | c + 1 => if (log[c]?.map fun v => decide (((stpOf v.txt).kind = 3 ∨ (stpOf v.txt).kind = 4) ∧ (stpOf v.txt).which = u)).getD false = true then c else flagL log u c

set_option maxRecDepth 100000 in
set_option maxHeartbeats 4000000 in
theorem flagged_any (p j : Nat) (W : Wd) (w : World) {gP cP gB cB gL cL gH cH gS cS : Nat} {aG : Option Addr} {cG : Nat} (h : WIn w p W gP cP gB cB gL cL gH cH gS cS aG cG) (hL : LogOk W) (b : Ev) (hb : W.log[j]? = some b) (u : Nat) (hu : u < 6) (hb5 : (stpOf b.txt).kind = 5 ∧ (stpOf b.txt).which = u) (hl : W.log.length ≤ 60) (y : Int) (hy : y = j) :
    Calls Try.prog 115 #[.pointer (some ⟨p, 0, none⟩), .int .i64 y] w fun e w' => e = .returned (.int .i64 (flagL W.log u j)) ∧ w' = w := by
  subst hy
  have hjl : j < W.log.length := (List.getElem?_eq_some_iff.1 hb).1
  obtain ⟨g, hg, hc⟩ := h.cG' (by intro e; rw [e] at hjl; simp at hjl)
  have fG := h.fG
  obtain ⟨_, _, b2, _⟩ := hc j b hb
  rw [Nat.mul_comm 4 j] at b2
  subst hg
  have ob := hL b (List.mem_of_getElem? hb)
  obtain ⟨hs3, hb1⟩ : b.txt.size = 3 ∧ byteI b.txt 1 = 117 + u := by
    have hk := stpOf_kd ob.dok
    have hsz := ob.dok.1
    generalize stpOf b.txt = x at *
    cases hk with
    | skip v q _ _ h0 h1 _ =>
      obtain ⟨_, hw⟩ := hb5
      simp only at hw
      refine ⟨by rw [hsz, h0]; rfl, by omega⟩
    | _ => simp at hb5
  have hex := byteI_ext1 (d := b.txt) (by omega) u hb1 (by omega)
  have j0 : (0 : Int) ≤ (j : Int) := by omega
  have jl : (j : Int) < (W.log.length : Int) := by omega
  have ha1 := ex_add u
  have ha2 := ti_add u
  have hos : (oneF u).size = 1 := rfl
  generalize hres : flagL W.log u j = res
  have HR : Hid (flagL W.log u j = res) := hres
  clear hres hb1 hb5
  go_enter Try.func115, Try.ntmps115
  go_wp2
  go_loopw [6] (fun x wr => ∃ c : Nat, c ≤ j ∧ x = .int .i64 ((c : Int) - 1) ∧ Hid (flagL W.log u c = res) ∧ wr = w) (fun x _ => (intOf x + 1).toNat)
  case atStart => exact ⟨j, Nat.le_refl _, rfl, HR, rfl⟩
  case round =>
    obtain ⟨c, hcj, rfl, HE, hw⟩ := hrel
    have hw2 := hw.symm
    clear hw
    subst hw2
    clear HR b2 hex
    cases c with
    | zero =>
      have hres : res = -1 := by have h := HE.out; rw [flagL] at h; exact h.symm
      subst hres
      go_wp2
      go_ret
      exact ⟨rfl, rfl⟩
    | succ i =>
      have hz : (((i + 1 : Nat) : Int) - 1) = (i : Int) := by omega
      rw [hz]
      obtain ⟨a, ha⟩ := get_some W.log i (by omega)
      obtain ⟨_, _, a2, _⟩ := hc i a ha
      rw [Nat.mul_comm 4 i] at a2
      have oa := (hL a (List.mem_of_getElem? ha)).dok
      have e3 := flag_eq oa 33 3 u (.inl ⟨rfl, rfl⟩) hu
      have e4 := flag_eq oa 126 4 u (.inr ⟨rfl, rfl⟩) hu
      have HE1 : Hid ((if (decide ((stpOf a.txt).kind = 3 ∧ (stpOf a.txt).which = u) || decide ((stpOf a.txt).kind = 4 ∧ (stpOf a.txt).which = u)) = true then (i : Int) else flagL W.log u i) = res) := by
        have h := HE.out
        rw [flagL, ha] at h
        rw [Hid, ← h]
        simp only [Option.map_some, Option.getD_some]
        congr 1
        simp only [Bool.or_eq_true, decide_eq_true_eq, eq_iff_iff]
        constructor
        · rintro (⟨h1, h2⟩ | ⟨h1, h2⟩)
          · exact ⟨.inl h1, h2⟩
          · exact ⟨.inr h1, h2⟩
        · rintro ⟨h1 | h1, h2⟩
          · exact .inl ⟨h1, h2⟩
          · exact .inr ⟨h1, h2⟩
      have e3' : (a.txt.toList == (twoF 33 u).toList) = decide ((stpOf a.txt).kind = 3 ∧ (stpOf a.txt).which = u) := e3
      have e4' : (a.txt.toList == (twoF 126 u).toList) = decide ((stpOf a.txt).kind = 4 ∧ (stpOf a.txt).which = u) := e4
      generalize decide ((stpOf a.txt).kind = 3 ∧ (stpOf a.txt).which = u) = d3 at *
      generalize decide ((stpOf a.txt).kind = 4 ∧ (stpOf a.txt).which = u) = d4 at *
      have i0 : (0 : Int) ≤ (i : Int) := by omega
      have il : (i : Int) < (W.log.length : Int) := by omega
      clear HE e3 e4 ha oa hc hL h
      cases d3 <;> cases d4
      case false.false =>
        have HE2 : Hid (flagL W.log u i = res) := by have h := HE1.out; rw [if_neg (by decide)] at h; exact h
        go_wp2
        go_roundw
        case rel => exact ⟨i, by omega, rfl, HE2, by first | rfl | trivial⟩
        case measure => (simp [intOf] <;> omega)
      all_goals
        have hres : res = i := by have h := HE1.out; rw [if_pos (by decide)] at h; exact h.symm
        subst hres
        clear HE1
        go_wp2
        go_ret
        exact ⟨rfl, rfl⟩
end Go.Proofs.Ytdfndcbakcmgiaa
namespace Go.Proofs.Ytdfndcbakcmgiaa
open Go.RowKit

/-! The event by which a lock is given back. -/
def oneG (u : Nat) : ByteArray := ⟨#[UInt8.ofNat (65 + u)]⟩
theorem give_ext (k : Nat) (h : k < 6) : (⟨#[65, 66, 67, 68, 69, 70]⟩ : ByteArray).extract k (k + 1) = oneG k := by
  have : k = 0 ∨ k = 1 ∨ k = 2 ∨ k = 3 ∨ k = 4 ∨ k = 5 := by omega
  rcases this with rfl | rfl | rfl | rfl | rfl | rfl <;> decide
theorem oneG_b0 (u : Nat) (h : u ≤ 100) : byteI (oneG u) 0 = 65 + u := by
  rw [← byteI_in (show 0 < (oneG u).size by show 0 < 1; omega)]
  show ((UInt8.ofNat (65 + u)).toNat : Int) = 65 + u
  rw [UInt8.toNat_ofNat']; omega
theorem give_eq {n : Nat} {d : ByteArray} (h : DOk n d) (u : Nat) (hu : u < 6) : (d.toList == (oneG u).toList) = decide ((stpOf d).kind = 2 ∧ (stpOf d).which = u) := by
  have hk := stpOf_kd h
  by_cases he : d = oneG u
  · have h0 : byteI d 0 = 65 + u := by rw [he, oneG_b0 _ (by omega)]
    have e : (d.toList == (oneG u).toList) = true := by rw [he]; simp
    rw [e]
    generalize stpOf d = x at hk
    cases hk with
    | give v hv _ => symm; simp; omega
    | _ => exfalso; omega
  · have e : (d.toList == (oneG u).toList) = false := by
      refine beq_false_of_ne fun hh => he ?_
      rw [ByteArray.toList_eq, ByteArray.toList_eq] at hh
      apply ByteArray.ext
      exact Array.ext' hh
    rw [e]
    symm
    rw [decide_eq_false_iff_not]
    rintro ⟨h6, hw⟩
    apply he
    have hsz := h.1
    generalize stpOf d = x at *
    cases hk with
    | give v hv h0 =>
      simp only at hw
      have hvu : v = u := by omega
      subst hvu
      have hs1 : d.size = 1 := by rw [hsz, wid, if_neg (by omega), if_neg (by omega)]
      refine txt_eq (by rw [hs1]; rfl) fun k hk => ?_
      have hk0 : k = 0 := by omega
      subst hk0
      rw [h0, oneG_b0 _ (by omega)]
    | _ => simp at h6

/-- The first event from g on by which thread t gives lock u back. -/
def givenL (log : List Ev) (t : Int) (u : Nat) (g : Nat) : Int :=
  if g < log.length then
    if (log[g]?.map fun v => decide (v.thread = t) && decide ((stpOf v.txt).kind = 2 ∧ (stpOf v.txt).which = u)).getD false = true then g else givenL log t u (g + 1)
  else -1
termination_by log.length - g

set_option maxRecDepth 100000 in
set_option maxHeartbeats 4000000 in
theorem given_any (p i : Nat) (W : Wd) (w : World) {gP cP gB cB gL cL gH cH gS cS : Nat} {aG : Option Addr} {cG : Nat} (h : WIn w p W gP cP gB cB gL cL gH cH gS cS aG cG) (hL : LogOk W) (b : Ev) (hb : W.log[i]? = some b) (u : Nat) (hu : u < 6) (hb1 : (stpOf b.txt).kind = 1 ∧ (stpOf b.txt).which = u) (hl : W.log.length ≤ 60) (y : Int) (hy : y = i) :
    Calls Try.prog 116 #[.pointer (some ⟨p, 0, none⟩), .int .i64 y] w fun e w' => e = .returned (.int .i64 (givenL W.log b.thread u (i + 1))) ∧ Below w.heap.size w w' := by
  subst hy
  have hil : i < W.log.length := (List.getElem?_eq_some_iff.1 hb).1
  obtain ⟨g, hg, hc⟩ := h.cG' (by intro e; rw [e] at hil; simp at hil)
  have fG := h.fG
  obtain ⟨b0, _, b2, _⟩ := hc i b hb
  rw [Nat.mul_comm 4 i] at b0 b2
  subst hg
  have ob := hL b (List.mem_of_getElem? hb)
  have hd : byteI b.txt 0 = 97 + u := by
    have hk := stpOf_kd ob.dok
    generalize stpOf b.txt = x at *
    cases hk with
    | take v _ h0 =>
      obtain ⟨_, hw⟩ := hb1
      simp only at hw
      omega
    | _ => simp at hb1
  have hd0 : 0 < b.txt.size := ob.dok.size
  have hbi : (b.txt[0].toNat : Int) = 97 + u := by rw [byteI_in hd0]; exact hd
  have e1 : atI ⟨#[97, 98, 99, 100, 101, 102]⟩ (97 + u) = u := by rw [atI_lock (by omega) (by omega), atR_yes (by omega) (by omega)]; omega
  have hge := give_ext u hu
  have i0 : (0 : Int) ≤ (i : Int) := by omega
  have il : (i : Int) < (W.log.length : Int) := by omega
  have u0 : (0 : Int) ≤ (u : Int) := by omega
  have u6 : (u : Int) + 1 ≤ 6 := by omega
  have u6' : u + 1 ≤ 6 := by omega
  generalize hres : givenL W.log b.thread u (i + 1) = res
  have HR : Hid (givenL W.log b.thread u (i + 1) = res) := hres
  have HBT : Hid (W.log[i]? = some b) := hb
  clear hres hb1 hd hb ob
  go_enter Try.func116, Try.ntmps116
  go_wp2_with (go_at_call 77; refine (at_n _ _ _ (by omega) (by omega) (by decide)).mono ?_; rintro e w2 ⟨rfl, hw⟩; have hw2 := hw.symm; clear hw; subst hw2)
  go_loopw [6] (fun x wr => ∃ k : Nat, i + 1 ≤ k ∧ k ≤ W.log.length ∧ x = .int .i64 (k : Int) ∧ Hid (givenL W.log b.thread u k = res) ∧ Below w.heap.size w wr) (fun x _ => W.log.length - (intOf x).toNat)
  case atStart => exact ⟨i + 1, Nat.le_refl _, by omega, rfl, HR, Below.refl _ _⟩
  case round =>
    obtain ⟨k, hik, hkl, rfl, HE, hBr⟩ := hrel
    have fG' := cell_later hBr fG
    have b0' := cell_later hBr b0
    clear HR b2 hbi e1
    by_cases hkn : k < W.log.length
    · obtain ⟨a, ha⟩ := get_some W.log k hkn
      obtain ⟨a0, _, a2, _⟩ := hc k a ha
      rw [Nat.mul_comm 4 k] at a0 a2
      have a0' := cell_later hBr a0
      have a2' := cell_later hBr a2
      have oa := (hL a (List.mem_of_getElem? ha)).dok
      have e3 := give_eq oa u hu
      have HE1 : Hid ((if (decide (a.thread = b.thread) && decide ((stpOf a.txt).kind = 2 ∧ (stpOf a.txt).which = u)) = true then (k : Int) else givenL W.log b.thread u (k + 1)) = res) := by
        have h := HE.out
        rw [givenL, if_pos hkn, ha] at h
        exact h
      generalize decide ((stpOf a.txt).kind = 2 ∧ (stpOf a.txt).which = u) = d2 at *
      have ebt : (a.thread == b.thread) = decide (a.thread = b.thread) := by by_cases h : a.thread = b.thread <;> simp [h]
      generalize a.thread = at' at *
      generalize b.thread = bt' at *
      generalize decide (at' = bt') = dt at *
      have k0 : (0 : Int) ≤ (k : Int) := by omega
      have kl : (k : Int) < (W.log.length : Int) := by omega
      clear HE ha oa hc hL h a0 a2 b0 fG
      cases dt with
      | false =>
        have HE2 : Hid (givenL W.log bt' u (k + 1) = res) := by have h := HE1.out; rw [if_neg (by simp)] at h; exact h
        go_wp2
        go_quiet (fail)
        go_wp2
        go_roundw
        case rel => exact ⟨k + 1, by omega, by omega, rfl, HE2, hBr.trans ((below_drewN _ _).mono hBr.size)⟩
        case measure => (simp [intOf] <;> omega)
      | true =>
        cases d2 with
        | false =>
          have HE2 : Hid (givenL W.log bt' u (k + 1) = res) := by have h := HE1.out; rw [if_neg (by simp)] at h; exact h
          go_wp2
          go_quiet (fail)
          go_wp2
          go_roundw
          case rel => exact ⟨k + 1, by omega, by omega, rfl, HE2, hBr.trans ((below_drewN _ _).mono hBr.size)⟩
          case measure => (simp [intOf] <;> omega)
        | true =>
          have hres : res = k := by have h := HE1.out; rw [if_pos (by simp)] at h; exact h.symm
          subst hres
          clear HE1
          go_wp2
          go_quiet (fail)
          go_wp2
          go_ret
          exact ⟨rfl, hBr.trans ((below_drewN _ _).mono hBr.size)⟩
    · have hres : res = -1 := by have h := HE.out; rw [givenL, if_neg hkn] at h; exact h.symm
      subst hres
      have kl : ¬ (k : Int) < (W.log.length : Int) := by omega
      go_wp2
      go_ret
      exact ⟨rfl, hBr⟩
end Go.Proofs.Ytdfndcbakcmgiaa
namespace Go.Proofs.Ytdfndcbakcmgiaa
open Go.RowKit

/-- What a set of events needs with its event j. -/
inductive Need (log : List Ev) (m : List Bool) (j i : Nat) : Prop
  | ahead : i < j → (aheadR log j)[i]? = some true → Need log m j i
  | flag (b : Ev) (u : Nat) : log[j]? = some b → (stpOf b.txt).kind = 5 → (stpOf b.txt).which = u → flagL log u j = i → Need log m j i
  | give (b a : Ev) (u k : Nat) : log[j]? = some b → (stpOf b.txt).kind = 1 → (stpOf b.txt).which = u → k < j → m[k]? = some true → log[k]? = some a → (stpOf a.txt).kind = 1 → (stpOf a.txt).which = u → givenL log a.thread u (k + 1) = i → Need log m j i
def ClosedAt (log : List Ev) (m : List Bool) (j : Nat) : Prop := ∀ i, Need log m j i → m[i]? = some true

theorem flagL_lt (log : List Ev) (u : Nat) : ∀ c, flagL log u c = -1 ∨ ∃ i : Nat, flagL log u c = i ∧ i < c
  | 0 => .inl rfl
  | c + 1 => by
    rw [flagL]
    split
    · exact .inr ⟨c, rfl, by omega⟩
    · rcases flagL_lt log u c with h | ⟨i, h, hi⟩
      · exact .inl h
      · exact .inr ⟨i, h, by omega⟩
theorem givenL_lt (log : List Ev) (t : Int) (u : Nat) : ∀ d g, log.length - g = d → givenL log t u g = -1 ∨ ∃ i : Nat, givenL log t u g = i ∧ i < log.length := by
  intro d
  induction d with
  | zero => intro g hd; rw [givenL, if_neg (by omega)]; exact .inl rfl
  | succ d ih =>
    intro g hd
    rw [givenL, if_pos (by omega)]
    split
    · exact .inr ⟨g, rfl, by omega⟩
    · exact ih (g + 1) (by omega)
theorem take_eq {n : Nat} {d x : ByteArray} (h : DOk n d) (hx : DOk n x) (u : Nat) (hxk : (stpOf x).kind = 1 ∧ (stpOf x).which = u) : (d.toList == x.toList) = decide ((stpOf d).kind = 1 ∧ (stpOf d).which = u) := by
  by_cases he : d = x
  · subst he
    rw [decide_eq_true hxk]; simp
  · have e : (d.toList == x.toList) = false := by
      refine beq_false_of_ne fun hh => he ?_
      rw [ByteArray.toList_eq, ByteArray.toList_eq] at hh
      apply ByteArray.ext
      exact Array.ext' hh
    rw [e]
    symm
    rw [decide_eq_false_iff_not]
    rintro ⟨h6, hw⟩
    apply he
    have hk := stpOf_kd h
    have hk' := stpOf_kd hx
    have hs := h.1
    have hs' := hx.1
    obtain ⟨hx6, hxw⟩ := hxk
    generalize stpOf d = a at *
    generalize stpOf x = b at *
    cases hk with
    | take v hv h0 =>
      cases hk' with
      | take v' hv' h0' =>
        simp only at hw hxw
        have e1 : d.size = 1 := by rw [hs, wid, if_neg (by omega), if_neg (by omega)]
        have e2 : x.size = 1 := by rw [hs', wid, if_neg (by omega), if_neg (by omega)]
        refine txt_eq (by omega) fun k hk => ?_
        have hk0 : k = 0 := by omega
        subst hk0
        rw [h0, h0']; omega
      | _ => simp at hx6
    | _ => simp at h6

set_option maxRecDepth 100000 in
set_option maxHeartbeats 4000000 in
theorem needs_any (p j gi ci : Nat) (W : Wd) (w : World) {gP cP gB cB gL cL gH cH gS cS : Nat} {aG : Option Addr} {cG : Nat} (h : WIn w p W gP cP gB cB gL cL gH cH gS cS aG cG) (hn5 : W.prog.length ≤ 5) (hL : LogOk W) (hj : j < W.log.length) (hl : W.log.length ≤ 60) (m : List Bool) (hm : m.length = W.log.length) (hM : ∀ x b, m[x]? = some b → w.cell? ⟨gi, x, none⟩ = some (.bool b)) (y : Int) (hy : y = j) :
    Calls Try.prog 95 #[.pointer (some ⟨p, 0, none⟩), .slice (some ⟨gi, 0, none⟩) W.log.length ci, .int .i64 y] w fun e w' => ∃ r : Int, e = .returned (.int .i64 r) ∧ Below w.heap.size w w' ∧ ((r = -1 ∧ ClosedAt W.log m j) ∨ ∃ i : Nat, r = i ∧ i < W.log.length ∧ m[i]? = some false ∧ Need W.log m j i) := by
  subst hy
  obtain ⟨b, hb⟩ := get_some W.log j hj
  have ob := hL b (List.mem_of_getElem? hb)
  have hAh := ahead_any p j W w h hn5 hL hj hl _ rfl
  have hlenA := aheadR_len W.log j
  have jl : (j : Int) < (W.log.length : Int) := by omega
  have j0 : (0 : Int) ≤ (j : Int) := by omega
  go_enter Try.func95, Try.ntmps95
  go_wp2_with (first | (go_at_call 62; refine hAh.mono ?_; rintro e w1 ⟨g, rfl, hb1, ho1⟩))
  go_loopw [8] (fun x wr => ∃ i : Nat, i ≤ j ∧ x = .int .i64 (i : Int) ∧ Hid (∀ x, x < i → (aheadR W.log j)[x]? = some true → m[x]? = some true) ∧ wr = w1) (fun x _ => j - (intOf x).toNat)
  case atStart => exact ⟨0, Nat.zero_le _, rfl, fun x hx => by omega, rfl⟩
  case round =>
    obtain ⟨i, hij, rfl, HA, hw⟩ := hrel
    have hw2 := hw.symm
    clear hw
    subst hw2
    by_cases hin : i < j
    · obtain ⟨x, hx⟩ := get_some (aheadR W.log j) i (by omega)
      obtain ⟨y, hy⟩ := get_some m i (by omega)
      have cx : w1.cell? ⟨g, i, none⟩ = some (.bool x) := by rw [ho1.cellAt i (by omega)]; simp [hx]
      have cy := cell_later hb1 (hM i y hy)
      have i0 : (0 : Int) ≤ (i : Int) := by omega
      have il : (i : Int) < (W.log.length : Int) := by omega
      have ijl : (i : Int) < (j : Int) := by omega
      cases x with
      | false =>
        have HA2 : Hid (∀ x, x < i + 1 → (aheadR W.log j)[x]? = some true → m[x]? = some true) := fun x hx1 hx2 => by
          by_cases hxi : x = i
          · subst hxi; rw [hx] at hx2; cases hx2
          · exact HA.out x (by omega) hx2
        clear hx hy HA hM h hL
        go_wp2
        go_roundw
        case rel => exact ⟨i + 1, by omega, rfl, HA2, by first | rfl | trivial⟩
        case measure => (simp [intOf] <;> omega)
      | true =>
        cases y with
        | true =>
          have HA2 : Hid (∀ x, x < i + 1 → (aheadR W.log j)[x]? = some true → m[x]? = some true) := fun x hx1 hx2 => by
            by_cases hxi : x = i
            · subst hxi; exact hy
            · exact HA.out x (by omega) hx2
          clear hx hy HA hM h hL
          go_wp2
          go_roundw
          case rel => exact ⟨i + 1, by omega, rfl, HA2, by first | rfl | trivial⟩
          case measure => (simp [intOf] <;> omega)
        | false =>
          have HN : Hid (m[i]? = some false ∧ Need W.log m j i) := ⟨hy, .ahead hin hx⟩
          clear hx hy HA hM h hL
          go_wp2
          go_ret
          exact ⟨i, rfl, hb1, .inr ⟨i, rfl, by omega, HN.out.1, HN.out.2⟩⟩
    · have hie : i = j := by omega
      have HAll : Hid (∀ x, x < j → (aheadR W.log j)[x]? = some true → m[x]? = some true) := fun x hx => HA.out x (by omega)
      have hnl : ¬ (i : Int) < (j : Int) := by omega
      clear HA hie hin hij
      have hW1 := h.below hb1
      obtain ⟨g2, hg2, hc2⟩ := hW1.cG' (by intro e; rw [e] at hj; simp at hj)
      have fG := hW1.fG
      obtain ⟨_, _, b2, _⟩ := hc2 j b hb
      rw [Nat.mul_comm 4 j] at b2
      subst hg2
      have hd0 : 0 < b.txt.size := ob.dok.size
      have hbi := byteI_in hd0
      have hkd := stpOf_kd ob.dok
      have HB : Hid (W.log[j]? = some b) := hb
      have hlo := byteI_lo b.txt 0
      have hhi := byteI_hi b.txt 0
      by_cases h63 : byteI b.txt 0 = 63
      · obtain ⟨u, hu, hk5, hkw⟩ : ∃ u : Nat, u < 6 ∧ (stpOf b.txt).kind = 5 ∧ (stpOf b.txt).which = u := by
          generalize stpOf b.txt = x at hkd
          cases hkd with
          | skip v q hv _ _ _ _ => exact ⟨v, hv, rfl, rfl⟩
          | _ => exfalso; omega
        have hFl := flagged_any p j W w1 hW1 hL b hb u hu ⟨hk5, hkw⟩ hl _ rfl
        have e1 : atI ⟨#[97, 98, 99, 100, 101, 102]⟩ 63 = -1 := (atI_lock (by omega) (by omega)).trans (atR_no (by omega))
        have hb63 : (b.txt[0].toNat : Int) = 63 := by rw [hbi]; exact h63
        have HCl : Hid (m[(flagL W.log u j).toNat]? = some true ∨ flagL W.log u j = -1 → ClosedAt W.log m j) := fun hfl i hi => by
          cases hi with
          | ahead h1 h2 => exact HAll.out i h1 h2
          | flag b' u' hb' _ hw' he =>
            have : b' = b := by rw [HB.out] at hb'; cases hb'; rfl
            subst this
            have hu' : u' = u := by omega
            subst hu'
            rcases hfl with hf | hf
            · rw [he] at hf; simpa using hf
            · omega
          | give b' a u' k hb' hk1 _ _ _ _ _ _ _ =>
            have : b' = b := by rw [HB.out] at hb'; cases hb'; rfl
            subst this
            omega
        rcases flagL_lt W.log u j with hf | ⟨r, hf, hr⟩
        · rw [hf] at hFl
          have HC2 : Hid (ClosedAt W.log m j) := HCl.out (.inr hf)
          clear HCl HAll hc2 hL h hW1 hM ob hkd hk5 hkw hb hbi h63
          go_wp2_with (first
            | (go_at_call 115; refine hFl.mono ?_; rintro e w3 ⟨rfl, hw⟩; have hw3 := hw.symm; clear hw; subst hw3)
            | (go_at_call 77; refine (at_n _ _ _ (by omega) (by omega) (by decide)).mono ?_; rintro e w2 ⟨rfl, hw⟩; have hw2 := hw.symm; clear hw; subst hw2))
          go_ret
          exact ⟨-1, rfl, hb1, .inl ⟨rfl, HC2.out⟩⟩
        · rw [hf] at hFl
          obtain ⟨y, hy⟩ := get_some m r (by omega)
          have cy := cell_later hb1 (hM r y hy)
          have r0 : (0 : Int) ≤ (r : Int) := by omega
          have rl : (r : Int) < (W.log.length : Int) := by omega
          cases y with
          | true =>
            have HC2 : Hid (ClosedAt W.log m j) := HCl.out (.inl (by rw [hf]; simpa using hy))
            clear HCl HAll hc2 hL h hW1 hM ob hkd hk5 hkw hb hbi h63 hy hf
            go_wp2_with (first
              | (go_at_call 115; refine hFl.mono ?_; rintro e w3 ⟨rfl, hw⟩; have hw3 := hw.symm; clear hw; subst hw3)
              | (go_at_call 77; refine (at_n _ _ _ (by omega) (by omega) (by decide)).mono ?_; rintro e w2 ⟨rfl, hw⟩; have hw2 := hw.symm; clear hw; subst hw2))
            go_ret
            exact ⟨-1, rfl, hb1, .inl ⟨rfl, HC2.out⟩⟩
          | false =>
            have HN : Hid (m[r]? = some false ∧ Need W.log m j r) := ⟨hy, .flag b u HB.out hk5 hkw hf⟩
            clear HCl HAll hc2 hL h hW1 hM ob hkd hk5 hkw hb hbi h63 hy hf
            go_wp2_with (first
              | (go_at_call 115; refine hFl.mono ?_; rintro e w3 ⟨rfl, hw⟩; have hw3 := hw.symm; clear hw; subst hw3)
              | (go_at_call 77; refine (at_n _ _ _ (by omega) (by omega) (by decide)).mono ?_; rintro e w2 ⟨rfl, hw⟩; have hw2 := hw.symm; clear hw; subst hw2))
            go_ret
            exact ⟨r, rfl, hb1, .inr ⟨r, rfl, by omega, HN.out.1, HN.out.2⟩⟩
      · have hb63 : (byteI b.txt 0 == 63) = false := beq_false_of_ne h63
        by_cases hlk : 97 ≤ byteI b.txt 0 ∧ byteI b.txt 0 ≤ 102
        · obtain ⟨u, hu, hk1, hkw, hbu⟩ : ∃ u : Nat, u < 6 ∧ (stpOf b.txt).kind = 1 ∧ (stpOf b.txt).which = u ∧ byteI b.txt 0 = 97 + u := by
            generalize stpOf b.txt = x at hkd
            cases hkd with
            | take v hv h0 => exact ⟨v, hv, rfl, rfl, h0⟩
            | _ => exfalso; omega
          have e1 : atI ⟨#[97, 98, 99, 100, 101, 102]⟩ (97 + u) = u := by rw [atI_lock (by omega) (by omega), atR_yes (by omega) (by omega)]; omega
          rw [hbu] at hbi hb63
          have u0 : (0 : Int) ≤ (u : Int) := by omega
          have HCl : Hid ((∀ k a, k < j → m[k]? = some true → W.log[k]? = some a → (stpOf a.txt).kind = 1 → (stpOf a.txt).which = u → givenL W.log a.thread u (k + 1) = -1 ∨ m[(givenL W.log a.thread u (k + 1)).toNat]? = some true) → ClosedAt W.log m j) := fun hall i hi => by
            cases hi with
            | ahead h1 h2 => exact HAll.out i h1 h2
            | flag b' u' hb' hk5 _ _ =>
              have : b' = b := by rw [HB.out] at hb'; cases hb'; rfl
              subst this
              omega
            | give b' a u' k hb' _ hw' hkj hmk hka ha1 haw he =>
              have : b' = b := by rw [HB.out] at hb'; cases hb'; rfl
              subst this
              have hu' : u' = u := by omega
              subst hu'
              rcases hall k a hkj hmk hka ha1 haw with hf | hf
              · omega
              · rw [he] at hf; simpa using hf
          have HOB : Hid (DOk W.prog.length b.txt ∧ (stpOf b.txt).kind = 1 ∧ (stpOf b.txt).which = u) := ⟨ob.dok, hk1, hkw⟩
          have HW1 : Hid (WIn w1 p W gP cP gB cB gL cL gH cH gS cS (some ⟨g2, 0, none⟩) cG) := hW1
          have HM : Hid (∀ x b, m[x]? = some b → w1.cell? ⟨gi, x, none⟩ = some (.bool b)) := fun x b hx => cell_later hb1 (hM x b hx)
          have HC2 : Hid (∀ j x, W.log[j]? = some x → w1.cell? ⟨g2, 4 * j + 2, none⟩ = some (.string x.txt)) := fun j x hx => (hc2 j x hx).2.2.1
          clear hc2 h hM ob hkd hk1 hkw hb h63 hlk hbu HAll hW1
          go_wp2_with (go_at_call 77; refine (at_n _ _ _ (by omega) (by omega) (by decide)).mono ?_; rintro e w2 ⟨rfl, hw⟩; have hw2 := hw.symm; clear hw; subst hw2)
          go_loopw [10] (fun x wr => ∃ i : Nat, i ≤ j ∧ x = .int .i64 (i : Int) ∧ Hid (∀ k a, k < i → m[k]? = some true → W.log[k]? = some a → (stpOf a.txt).kind = 1 → (stpOf a.txt).which = u → givenL W.log a.thread u (k + 1) = -1 ∨ m[(givenL W.log a.thread u (k + 1)).toNat]? = some true) ∧ Below w1.heap.size w1 wr) (fun x _ => j - (intOf x).toNat)
          case atStart => exact ⟨0, Nat.zero_le _, rfl, fun k a hk => by omega, Below.refl _ _⟩
          case round =>
            obtain ⟨i, hij, rfl, HA, hBr⟩ := hrel
            have fG' := cell_later hBr fG
            have b2' := cell_later hBr b2
            by_cases hin : i < j
            · obtain ⟨a, ha⟩ := get_some W.log i (by omega)
              obtain ⟨y, hy⟩ := get_some m i (by omega)
              have a2 := cell_later hBr (HC2.out i a ha)
              rw [Nat.mul_comm 4 i] at a2
              have cy := cell_later hBr (HM.out i y hy)
              have oa := hL a (List.mem_of_getElem? ha)
              have e3 := take_eq oa.dok HOB.out.1 u HOB.out.2
              have i0 : (0 : Int) ≤ (i : Int) := by omega
              have il : (i : Int) < (W.log.length : Int) := by omega
              have ijl : (i : Int) < (j : Int) := by omega
              cases y with
              | false =>
                have HA2 : Hid (∀ k a, k < i + 1 → m[k]? = some true → W.log[k]? = some a → (stpOf a.txt).kind = 1 → (stpOf a.txt).which = u → givenL W.log a.thread u (k + 1) = -1 ∨ m[(givenL W.log a.thread u (k + 1)).toNat]? = some true) := fun k a' hk h1 h2 h3 h4 => by
                  by_cases hki : k = i
                  · subst hki
                    rw [hy] at h1; cases h1
                  · exact HA.out k a' (by omega) h1 h2 h3 h4
                clear HA HCl hy ha e3 HC2 HM oa hL
                go_wp2
                go_quiet (fail)
                go_wp2
                go_roundw
                case rel => exact ⟨i + 1, by omega, rfl, HA2, hBr.trans ((below_drewN _ _).mono hBr.size)⟩
                case measure => (simp [intOf] <;> omega)
              | true =>
                by_cases hd : (stpOf a.txt).kind = 1 ∧ (stpOf a.txt).which = u
                · rw [decide_eq_true hd] at e3
                  have hG := fun w' hw => given_any p i W w' ((HW1.out.below hBr).below (w' := w') hw) hL a ha u hu hd hl _ rfl
                  rcases givenL_lt W.log a.thread u _ (i + 1) rfl with hr | ⟨r, hr, hrl⟩
                  · rw [hr] at hG
                    have HA2 : Hid (∀ k a, k < i + 1 → m[k]? = some true → W.log[k]? = some a → (stpOf a.txt).kind = 1 → (stpOf a.txt).which = u → givenL W.log a.thread u (k + 1) = -1 ∨ m[(givenL W.log a.thread u (k + 1)).toNat]? = some true) := fun k a' hk h1 h2 h3 h4 => by
                      by_cases hki : k = i
                      · subst hki
                        rw [ha] at h2; cases h2; exact .inl hr
                      · exact HA.out k a' (by omega) h1 h2 h3 h4
                    clear HA HCl hy ha HC2 HM oa hL hr
                    go_wp2
                    go_quiet (fail)
                    go_wp2_with (first | (go_at_call 116; refine (hG _ (below_drewN _ _)).mono ?_; rintro e w3 ⟨rfl, hb3⟩; have hB3 := below_of_drewN hb3))
                    go_roundw
                    case rel => exact ⟨i + 1, by omega, rfl, HA2, hBr.trans (hB3.mono hBr.size)⟩
                    case measure => (simp [intOf] <;> omega)
                  · rw [hr] at hG
                    obtain ⟨z, hz⟩ := get_some m r (by omega)
                    have cz := cell_later hBr (HM.out r z hz)
                    have r0 : (0 : Int) ≤ (r : Int) := by omega
                    have rl : (r : Int) < (W.log.length : Int) := by omega
                    cases z with
                    | true =>
                      have HA2 : Hid (∀ k a, k < i + 1 → m[k]? = some true → W.log[k]? = some a → (stpOf a.txt).kind = 1 → (stpOf a.txt).which = u → givenL W.log a.thread u (k + 1) = -1 ∨ m[(givenL W.log a.thread u (k + 1)).toNat]? = some true) := fun k a' hk h1 h2 h3 h4 => by
                        by_cases hki : k = i
                        · subst hki
                          rw [ha] at h2; cases h2; exact .inr (by rw [hr]; simpa using hz)
                        · exact HA.out k a' (by omega) h1 h2 h3 h4
                      clear HA HCl hy ha HC2 HM oa hL hr hz
                      go_wp2
                      go_quiet (fail)
                      go_wp2_with (first | (go_at_call 116; refine (hG _ (below_drewN _ _)).mono ?_; rintro e w3 ⟨rfl, hb3⟩; have hB3 := below_of_drewN hb3; have cz3 := cell_later hB3 cz))
                      go_roundw
                      case rel => exact ⟨i + 1, by omega, rfl, HA2, hBr.trans (hB3.mono hBr.size)⟩
                      case measure => (simp [intOf] <;> omega)
                    | false =>
                      have HN : Hid (m[r]? = some false ∧ Need W.log m j r) := ⟨hz, .give b a u i HB.out HOB.out.2.1 HOB.out.2.2 hin hy ha hd.1 hd.2 hr⟩
                      clear HA HCl hy ha HC2 HM oa hL hr hz
                      go_wp2
                      go_quiet (fail)
                      go_wp2_with (first | (go_at_call 116; refine (hG _ (below_drewN _ _)).mono ?_; rintro e w3 ⟨rfl, hb3⟩; have hB3 := below_of_drewN hb3; have cz3 := cell_later hB3 cz))
                      go_ret
                      exact ⟨r, rfl, hb1.trans ((hBr.trans (hB3.mono hBr.size)).mono hb1.size), .inr ⟨r, rfl, by omega, HN.out.1, HN.out.2⟩⟩
                · rw [decide_eq_false hd] at e3
                  have HA2 : Hid (∀ k a, k < i + 1 → m[k]? = some true → W.log[k]? = some a → (stpOf a.txt).kind = 1 → (stpOf a.txt).which = u → givenL W.log a.thread u (k + 1) = -1 ∨ m[(givenL W.log a.thread u (k + 1)).toNat]? = some true) := fun k a' hk h1 h2 h3 h4 => by
                    by_cases hki : k = i
                    · subst hki
                      rw [ha] at h2; cases h2; exact absurd ⟨h3, h4⟩ hd
                    · exact HA.out k a' (by omega) h1 h2 h3 h4
                  clear HA HCl hy ha HC2 HM oa hL hd
                  go_wp2
                  go_quiet (fail)
                  go_wp2
                  go_roundw
                  case rel => exact ⟨i + 1, by omega, rfl, HA2, hBr.trans ((below_drewN _ _).mono hBr.size)⟩
                  case measure => (simp [intOf] <;> omega)
            · have HC3 : Hid (ClosedAt W.log m j) := HCl.out (fun k a hk => HA.out k a (by omega))
              have hnl2 : ¬ (i : Int) < (j : Int) := by omega
              clear HCl HA
              go_wp2
              go_ret
              exact ⟨-1, rfl, hb1.trans (hBr.mono hb1.size), .inl ⟨rfl, HC3.out⟩⟩
        · have e1 : atI ⟨#[97, 98, 99, 100, 101, 102]⟩ (byteI b.txt 0) = -1 := (atI_lock (by omega) (by omega)).trans (atR_no (by omega))
          have HCl : Hid (ClosedAt W.log m j) := fun i hi => by
            have hkind : (stpOf b.txt).kind ≠ 1 ∧ (stpOf b.txt).kind ≠ 5 := by
              generalize stpOf b.txt = x at hkd
              cases hkd with
              | take v hv h0 => exfalso; omega
              | skip _ _ _ _ h0 _ _ => exact absurd h0 h63
              | _ => simp
            cases hi with
            | ahead h1 h2 => exact HAll.out i h1 h2
            | flag b' u' hb' hk5 _ _ =>
              have : b' = b := by rw [HB.out] at hb'; cases hb'; rfl
              subst this
              exact absurd hk5 hkind.2
            | give b' a u' k hb' hk1 _ _ _ _ _ _ _ =>
              have : b' = b := by rw [HB.out] at hb'; cases hb'; rfl
              subst this
              exact absurd hk1 hkind.1
          clear hc2 hL h hW1 hM ob hkd hb h63 hlk HAll
          go_wp2_with (go_at_call 77; refine (at_n _ _ _ (by omega) (by omega) (by decide)).mono ?_; rintro e w2 ⟨rfl, hw⟩; have hw2 := hw.symm; clear hw; subst hw2)
          go_ret
          exact ⟨-1, rfl, hb1, .inl ⟨rfl, HCl.out⟩⟩
end Go.Proofs.Ytdfndcbakcmgiaa
