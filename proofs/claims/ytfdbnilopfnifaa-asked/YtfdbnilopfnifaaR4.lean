import Derived.Test.YtfdbnilopfnifaaR3
namespace Go.Proofs.Ytfdbnilopfnifaa
open Go.RowKit

/-! The flag that an event asks for: who changed it last. -/
def oneF (u : Nat) : ByteArray := ⟨#[UInt8.ofNat (117 + u)]⟩
def twoF (c u : Nat) : ByteArray := ⟨#[UInt8.ofNat c, UInt8.ofNat (117 + u)]⟩
theorem twoF_b0 (c u : Nat) (h : c < 256) : byteI (twoF c u) 0 = c := by
  rw [← byteI_in (show 0 < (twoF c u).size by show 0 < 2; omega)]
  show ((UInt8.ofNat c).toNat : Int) = c
  rw [UInt8.toNat_ofNat']; omega
theorem twoF_b1 (c u : Nat) (h : u ≤ 100) : byteI (twoF c u) 1 = 117 + u := by
  rw [← byteI_in (show 1 < (twoF c u).size by show 1 < 2; omega)]
  show ((UInt8.ofNat (117 + u)).toNat : Int) = 117 + u
  rw [UInt8.toNat_ofNat']; omega
theorem flag_eq {n : Nat} {d : ByteArray} (h : DOk n d) (c kd u : Nat) (hc : (c = 33 ∧ kd = 3) ∨ (c = 126 ∧ kd = 4)) (hu : u < 6) : (d.toList == (twoF c u).toList) = decide ((stpOf d).kind = kd ∧ (stpOf d).which = u) := by
  have hk := stpOf_kd h
  by_cases he : d = twoF c u
  · have h0 : byteI d 0 = c := by rw [he, twoF_b0 _ _ (by omega)]
    have h1 : byteI d 1 = 117 + u := by rw [he, twoF_b1 _ _ (by omega)]
    have e : (d.toList == (twoF c u).toList) = true := by rw [he]; simp
    rw [e]
    generalize stpOf d = x at hk
    cases hk with
    | set v hv _ h1' => symm; simp; omega
    | clear v hv _ h1' => symm; simp; omega
    | _ => exfalso; omega
  · have e : (d.toList == (twoF c u).toList) = false := by
      refine beq_false_of_ne fun hh => he ?_
      rw [ByteArray.toList_eq, ByteArray.toList_eq] at hh
      apply ByteArray.ext
      exact Array.ext' hh
    rw [e]
    symm
    rw [decide_eq_false_iff_not]
    rintro ⟨h6, hw⟩
    apply he
    have hsz : ∀ (b : Int), byteI d 0 = b → (b = 33 ∨ b = 126) → d.size = 2 := fun b hb hbc => by rw [h.1, wid, if_pos (by omega)]
    generalize stpOf d = x at *
    cases hk with
    | set v hv h0 h1 =>
      simp only at hw h6
      have hvu : v = u := by omega
      have hc33 : c = 33 := by omega
      subst hvu hc33
      refine txt_eq (by rw [hsz _ h0 (.inl rfl)]; rfl) fun k hk => ?_
      rw [hsz _ h0 (.inl rfl)] at hk
      have : k = 0 ∨ k = 1 := by omega
      rcases this with rfl | rfl
      · rw [h0, twoF_b0 _ _ (by omega)]; rfl
      · rw [h1, twoF_b1 _ _ (by omega)]
    | clear v hv h0 h1 =>
      simp only at hw h6
      have hvu : v = u := by omega
      have hc33 : c = 126 := by omega
      subst hvu hc33
      refine txt_eq (by rw [hsz _ h0 (.inr rfl)]; rfl) fun k hk => ?_
      rw [hsz _ h0 (.inr rfl)] at hk
      have : k = 0 ∨ k = 1 := by omega
      rcases this with rfl | rfl
      · rw [h0, twoF_b0 _ _ (by omega)]; rfl
      · rw [h1, twoF_b1 _ _ (by omega)]
    | _ => simp at h6; omega
theorem ex_add (u : Nat) : (⟨#[33]⟩ : ByteArray) ++ oneF u = twoF 33 u := by
  apply ByteArray.ext
  simp [twoF, oneF]
theorem ti_add (u : Nat) : (⟨#[126]⟩ : ByteArray) ++ oneF u = twoF 126 u := by
  apply ByteArray.ext
  simp [twoF, oneF]
theorem byteI_ext1 {d : ByteArray} (hs : 2 ≤ d.size) (u : Nat) (h : byteI d 1 = 117 + u) (hu : u ≤ 100) : d.extract 1 2 = oneF u := by
  have h1 : (d.extract 1 2).size = 1 := by rw [ByteArray.size_extract]; omega
  refine txt_eq (by rw [h1]; rfl) fun k hk => ?_
  have hk0 : k = 0 := by omega
  subst hk0
  rw [byteI_extract d 1 2 0 hs, if_pos (by omega), h]
  rw [← byteI_in (show 0 < (oneF u).size by show 0 < 1; omega)]
  show (117 : Int) + u = ((UInt8.ofNat (117 + u)).toNat : Int)
  rw [UInt8.toNat_ofNat']; omega

/-- The last event below c that sets or clears flag u. -/
def flagL (log : List Ev) (u : Nat) : Nat → Int
  | 0 => -1
  | c + 1 => if (log[c]?.map fun v => decide (((stpOf v.txt).kind = 3 ∨ (stpOf v.txt).kind = 4) ∧ (stpOf v.txt).which = u)).getD false = true then c else flagL log u c

set_option maxRecDepth 100000 in
set_option maxHeartbeats 4000000 in
theorem flagged_any (p j : Nat) (W : Wd) (w : World) {gP cP gB cB gL cL gH cH gS cS : Nat} {aG : Option Addr} {cG : Nat} (h : WIn w p W gP cP gB cB gL cL gH cH gS cS aG cG) (hL : LogOk W) (b : Ev) (hb : W.log[j]? = some b) (u : Nat) (hu : u < 6) (hb5 : (stpOf b.txt).kind = 5 ∧ (stpOf b.txt).which = u) (hl : W.log.length ≤ 60) (y : Int) (hy : y = j) :
    Calls Try.prog 115 #[.pointer (some ⟨p, 0, none⟩), .int .i64 y] w fun e w' => e = .returned (.int .i64 (flagL W.log u j)) ∧ w' = w := by
  subst hy
  have hjl : j < W.log.length := (List.getElem?_eq_some_iff.1 hb).1
  obtain ⟨g, hg, hc⟩ := h.cG' (by intro e; rw [e] at hjl; simp at hjl)
  have fG := h.fG
  obtain ⟨_, _, b2, _⟩ := hc j b hb
  rw [Nat.mul_comm 4 j] at b2
  subst hg
  have ob := hL b (List.mem_of_getElem? hb)
  obtain ⟨hs3, hb1⟩ : b.txt.size = 3 ∧ byteI b.txt 1 = 117 + u := by
    have hk := stpOf_kd ob.dok
    have hsz := ob.dok.1
    generalize stpOf b.txt = x at *
    cases hk with
    | skip v q _ _ h0 h1 _ =>
      obtain ⟨_, hw⟩ := hb5
      simp only at hw
      refine ⟨by rw [hsz, h0]; rfl, by omega⟩
    | _ => simp at hb5
  have hex := byteI_ext1 (d := b.txt) (by omega) u hb1 (by omega)
  have j0 : (0 : Int) ≤ (j : Int) := by omega
  have jl : (j : Int) < (W.log.length : Int) := by omega
  have ha1 := ex_add u
  have ha2 := ti_add u
  have hos : (oneF u).size = 1 := rfl
  generalize hres : flagL W.log u j = res
  have HR : Hid (flagL W.log u j = res) := hres
  clear hres hb1 hb5
  go_enter Try.func115, Try.ntmps115
  go_wp2
  go_loopw [6] (fun x wr => ∃ c : Nat, c ≤ j ∧ x = .int .i64 ((c : Int) - 1) ∧ Hid (flagL W.log u c = res) ∧ wr = w) (fun x _ => (intOf x + 1).toNat)
  case atStart => exact ⟨j, Nat.le_refl _, rfl, HR, rfl⟩
  case round =>
    obtain ⟨c, hcj, rfl, HE, hw⟩ := hrel
    have hw2 := hw.symm
    clear hw
    subst hw2
    clear HR b2 hex
    cases c with
    | zero =>
      have hres : res = -1 := by have h := HE.out; rw [flagL] at h; exact h.symm
      subst hres
      go_wp2
      go_ret
      exact ⟨rfl, rfl⟩
    | succ i =>
      have hz : (((i + 1 : Nat) : Int) - 1) = (i : Int) := by omega
      rw [hz]
      obtain ⟨a, ha⟩ := get_some W.log i (by omega)
      obtain ⟨_, _, a2, _⟩ := hc i a ha
      rw [Nat.mul_comm 4 i] at a2
      have oa := (hL a (List.mem_of_getElem? ha)).dok
      have e3 := flag_eq oa 33 3 u (.inl ⟨rfl, rfl⟩) hu
      have e4 := flag_eq oa 126 4 u (.inr ⟨rfl, rfl⟩) hu
      have HE1 : Hid ((if (decide ((stpOf a.txt).kind = 3 ∧ (stpOf a.txt).which = u) || decide ((stpOf a.txt).kind = 4 ∧ (stpOf a.txt).which = u)) = true then (i : Int) else flagL W.log u i) = res) := by
        have h := HE.out
        rw [flagL, ha] at h
        rw [Hid, ← h]
        simp only [Option.map_some, Option.getD_some]
        congr 1
        simp only [Bool.or_eq_true, decide_eq_true_eq, eq_iff_iff]
        constructor
        · rintro (⟨h1, h2⟩ | ⟨h1, h2⟩)
          · exact ⟨.inl h1, h2⟩
          · exact ⟨.inr h1, h2⟩
        · rintro ⟨h1 | h1, h2⟩
          · exact .inl ⟨h1, h2⟩
          · exact .inr ⟨h1, h2⟩
      have e3' : (a.txt.toList == (twoF 33 u).toList) = decide ((stpOf a.txt).kind = 3 ∧ (stpOf a.txt).which = u) := e3
      have e4' : (a.txt.toList == (twoF 126 u).toList) = decide ((stpOf a.txt).kind = 4 ∧ (stpOf a.txt).which = u) := e4
      generalize decide ((stpOf a.txt).kind = 3 ∧ (stpOf a.txt).which = u) = d3 at *
      generalize decide ((stpOf a.txt).kind = 4 ∧ (stpOf a.txt).which = u) = d4 at *
      have i0 : (0 : Int) ≤ (i : Int) := by omega
      have il : (i : Int) < (W.log.length : Int) := by omega
      clear HE e3 e4 ha oa hc hL h
      cases d3 <;> cases d4
      case false.false =>
        have HE2 : Hid (flagL W.log u i = res) := by have h := HE1.out; rw [if_neg (by decide)] at h; exact h
        go_wp2
        go_roundw
        case rel => exact ⟨i, by omega, rfl, HE2, by first | rfl | trivial⟩
        case measure => (simp [intOf] <;> omega)
      all_goals
        have hres : res = i := by have h := HE1.out; rw [if_pos (by decide)] at h; exact h.symm
        subst hres
        clear HE1
        go_wp2
        go_ret
        exact ⟨rfl, rfl⟩
end Go.Proofs.Ytfdbnilopfnifaa
namespace Go.Proofs.Ytfdbnilopfnifaa
open Go.RowKit

/-! The event by which a lock is given back. -/
def oneG (u : Nat) : ByteArray := ⟨#[UInt8.ofNat (65 + u)]⟩
theorem give_ext (k : Nat) (h : k < 6) : (⟨#[65, 66, 67, 68, 69, 70]⟩ : ByteArray).extract k (k + 1) = oneG k := by
  have : k = 0 ∨ k = 1 ∨ k = 2 ∨ k = 3 ∨ k = 4 ∨ k = 5 := by omega
  rcases this with rfl | rfl | rfl | rfl | rfl | rfl <;> decide
theorem oneG_b0 (u : Nat) (h : u ≤ 100) : byteI (oneG u) 0 = 65 + u := by
  rw [← byteI_in (show 0 < (oneG u).size by show 0 < 1; omega)]
  show ((UInt8.ofNat (65 + u)).toNat : Int) = 65 + u
  rw [UInt8.toNat_ofNat']; omega
theorem give_eq {n : Nat} {d : ByteArray} (h : DOk n d) (u : Nat) (hu : u < 6) : (d.toList == (oneG u).toList) = decide ((stpOf d).kind = 2 ∧ (stpOf d).which = u) := by
  have hk := stpOf_kd h
  by_cases he : d = oneG u
  · have h0 : byteI d 0 = 65 + u := by rw [he, oneG_b0 _ (by omega)]
    have e : (d.toList == (oneG u).toList) = true := by rw [he]; simp
    rw [e]
    generalize stpOf d = x at hk
    cases hk with
    | give v hv _ => symm; simp; omega
    | _ => exfalso; omega
  · have e : (d.toList == (oneG u).toList) = false := by
      refine beq_false_of_ne fun hh => he ?_
      rw [ByteArray.toList_eq, ByteArray.toList_eq] at hh
      apply ByteArray.ext
      exact Array.ext' hh
    rw [e]
    symm
    rw [decide_eq_false_iff_not]
    rintro ⟨h6, hw⟩
    apply he
    have hsz := h.1
    generalize stpOf d = x at *
    cases hk with
    | give v hv h0 =>
      simp only at hw
      have hvu : v = u := by omega
      subst hvu
      have hs1 : d.size = 1 := by rw [hsz, wid, if_neg (by omega), if_neg (by omega)]
      refine txt_eq (by rw [hs1]; rfl) fun k hk => ?_
      have hk0 : k = 0 := by omega
      subst hk0
      rw [h0, oneG_b0 _ (by omega)]
    | _ => simp at h6

/-- The first event from g on by which thread t gives lock u back. -/
def givenL (log : List Ev) (t : Int) (u : Nat) (g : Nat) : Int :=
  if g < log.length then
    if (log[g]?.map fun v => decide (v.thread = t) && decide ((stpOf v.txt).kind = 2 ∧ (stpOf v.txt).which = u)).getD false = true then g else givenL log t u (g + 1)
  else -1
termination_by log.length - g

set_option maxRecDepth 100000 in
set_option maxHeartbeats 4000000 in
theorem given_any (p i : Nat) (W : Wd) (w : World) {gP cP gB cB gL cL gH cH gS cS : Nat} {aG : Option Addr} {cG : Nat} (h : WIn w p W gP cP gB cB gL cL gH cH gS cS aG cG) (hL : LogOk W) (b : Ev) (hb : W.log[i]? = some b) (u : Nat) (hu : u < 6) (hb1 : (stpOf b.txt).kind = 1 ∧ (stpOf b.txt).which = u) (hl : W.log.length ≤ 60) (y : Int) (hy : y = i) :
    Calls Try.prog 116 #[.pointer (some ⟨p, 0, none⟩), .int .i64 y] w fun e w' => e = .returned (.int .i64 (givenL W.log b.thread u (i + 1))) ∧ Below w.heap.size w w' := by
  subst hy
  have hil : i < W.log.length := (List.getElem?_eq_some_iff.1 hb).1
  obtain ⟨g, hg, hc⟩ := h.cG' (by intro e; rw [e] at hil; simp at hil)
  have fG := h.fG
  obtain ⟨b0, _, b2, _⟩ := hc i b hb
  rw [Nat.mul_comm 4 i] at b0 b2
  subst hg
  have ob := hL b (List.mem_of_getElem? hb)
  have hd : byteI b.txt 0 = 97 + u := by
    have hk := stpOf_kd ob.dok
    generalize stpOf b.txt = x at *
    cases hk with
    | take v _ h0 =>
      obtain ⟨_, hw⟩ := hb1
      simp only at hw
      omega
    | _ => simp at hb1
  have hd0 : 0 < b.txt.size := ob.dok.size
  have hbi : (b.txt[0].toNat : Int) = 97 + u := by rw [byteI_in hd0]; exact hd
  have e1 : atI ⟨#[97, 98, 99, 100, 101, 102]⟩ (97 + u) = u := by rw [atI_lock (by omega) (by omega), atR_yes (by omega) (by omega)]; omega
  have hge := give_ext u hu
  have i0 : (0 : Int) ≤ (i : Int) := by omega
  have il : (i : Int) < (W.log.length : Int) := by omega
  have u0 : (0 : Int) ≤ (u : Int) := by omega
  have u6 : (u : Int) + 1 ≤ 6 := by omega
  have u6' : u + 1 ≤ 6 := by omega
  generalize hres : givenL W.log b.thread u (i + 1) = res
  have HR : Hid (givenL W.log b.thread u (i + 1) = res) := hres
  have HBT : Hid (W.log[i]? = some b) := hb
  clear hres hb1 hd hb ob
  go_enter Try.func116, Try.ntmps116
  go_wp2_with (go_at_call 77; refine (at_n _ _ _ (by omega) (by omega) (by decide)).mono ?_; rintro e w2 ⟨rfl, hw⟩; have hw2 := hw.symm; clear hw; subst hw2)
  go_loopw [6] (fun x wr => ∃ k : Nat, i + 1 ≤ k ∧ k ≤ W.log.length ∧ x = .int .i64 (k : Int) ∧ Hid (givenL W.log b.thread u k = res) ∧ Below w.heap.size w wr) (fun x _ => W.log.length - (intOf x).toNat)
  case atStart => exact ⟨i + 1, Nat.le_refl _, by omega, rfl, HR, Below.refl _ _⟩
  case round =>
    obtain ⟨k, hik, hkl, rfl, HE, hBr⟩ := hrel
    have fG' := cell_later hBr fG
    have b0' := cell_later hBr b0
    clear HR b2 hbi e1
    by_cases hkn : k < W.log.length
    · obtain ⟨a, ha⟩ := get_some W.log k hkn
      obtain ⟨a0, _, a2, _⟩ := hc k a ha
      rw [Nat.mul_comm 4 k] at a0 a2
      have a0' := cell_later hBr a0
      have a2' := cell_later hBr a2
      have oa := (hL a (List.mem_of_getElem? ha)).dok
      have e3 := give_eq oa u hu
      have HE1 : Hid ((if (decide (a.thread = b.thread) && decide ((stpOf a.txt).kind = 2 ∧ (stpOf a.txt).which = u)) = true then (k : Int) else givenL W.log b.thread u (k + 1)) = res) := by
        have h := HE.out
        rw [givenL, if_pos hkn, ha] at h
        exact h
      generalize decide ((stpOf a.txt).kind = 2 ∧ (stpOf a.txt).which = u) = d2 at *
      have ebt : (a.thread == b.thread) = decide (a.thread = b.thread) := by by_cases h : a.thread = b.thread <;> simp [h]
      generalize a.thread = at' at *
      generalize b.thread = bt' at *
      generalize decide (at' = bt') = dt at *
      have k0 : (0 : Int) ≤ (k : Int) := by omega
      have kl : (k : Int) < (W.log.length : Int) := by omega
      clear HE ha oa hc hL h a0 a2 b0 fG
      cases dt with
      | false =>
        have HE2 : Hid (givenL W.log bt' u (k + 1) = res) := by have h := HE1.out; rw [if_neg (by simp)] at h; exact h
        go_wp2
        go_quiet (fail)
        go_wp2
        go_roundw
        case rel => exact ⟨k + 1, by omega, by omega, rfl, HE2, hBr.trans ((below_drewN _ _).mono hBr.size)⟩
        case measure => (simp [intOf] <;> omega)
      | true =>
        cases d2 with
        | false =>
          have HE2 : Hid (givenL W.log bt' u (k + 1) = res) := by have h := HE1.out; rw [if_neg (by simp)] at h; exact h
          go_wp2
          go_quiet (fail)
          go_wp2
          go_roundw
          case rel => exact ⟨k + 1, by omega, by omega, rfl, HE2, hBr.trans ((below_drewN _ _).mono hBr.size)⟩
          case measure => (simp [intOf] <;> omega)
        | true =>
          have hres : res = k := by have h := HE1.out; rw [if_pos (by simp)] at h; exact h.symm
          subst hres
          clear HE1
          go_wp2
          go_quiet (fail)
          go_wp2
          go_ret
          exact ⟨rfl, hBr.trans ((below_drewN _ _).mono hBr.size)⟩
    · have hres : res = -1 := by have h := HE.out; rw [givenL, if_neg hkn] at h; exact h.symm
      subst hres
      have kl : ¬ (k : Int) < (W.log.length : Int) := by omega
      go_wp2
      go_ret
      exact ⟨rfl, hBr⟩
end Go.Proofs.Ytfdbnilopfnifaa
