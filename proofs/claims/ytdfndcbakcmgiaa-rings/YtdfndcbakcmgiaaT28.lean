import Derived.Test.YtdfndcbakcmgiaaT18
import Derived.Test.YtdfndcbakcmgiaaW
namespace Go.Proofs.Ytdfndcbakcmgiaa
open Go.RowKit

set_option maxRecDepth 100000 in
set_option maxHeartbeats 2000000 in
theorem has_any (a : Option Addr) (c : Nat) (l : List Int) (hl : l.length ≤ maxLen) (x : Int) (w : World) (hA : IntsAt w a l) :
    Calls Try.prog 41 #[.slice a l.length c, .int .i64 x] w fun e w' => e = .returned (.bool (decide (x ∈ l))) ∧ w' = w := by
  unfold maxLen at hl
  go_enter Try.func41, Try.ntmps41
  go_wp2
  go_loop [5] (fun y => ∃ i : Nat, i ≤ l.length ∧ y = .int .i64 (i : Int) ∧ Hid (x ∉ l.take i)) (fun y => l.length - (intOf y).toNat)
  case atStart => exact ⟨0, Nat.zero_le _, rfl, by simp [Hid]⟩
  case round =>
    obtain ⟨i, hi, rfl, HN⟩ := hrel
    by_cases hil : i < l.length
    · obtain ⟨z, hz⟩ := get_some l i hil
      obtain ⟨g, o, e1, c1⟩ := hA i z hz
      subst e1
      have i0 : (0 : Int) ≤ (i : Int) := by omega
      have il : (i : Int) < (l.length : Int) := by omega
      by_cases hxk : z = x
      · have HD : Hid (decide (x ∈ l) = true) := decide_eq_true (by rw [← hxk]; exact List.mem_of_getElem? hz)
        subst hxk
        clear hz
        go_wp2
        go_ret
        exact ⟨by rw [HD.out]; rfl, rfl⟩
      · have HN2 : Hid (x ∉ l.take (i + 1)) := by
          rw [Hid, List.take_add_one, hz]
          intro h
          rcases List.mem_append.1 h with h | h
          · exact HN.out h
          · simp at h; exact hxk h.symm
        have hb : (z == x) = false := beq_false_of_ne hxk
        clear hz
        go_wp2
        go_round
        case rel => exact ⟨i + 1, by omega, by go_num, HN2⟩
        case measure => (simp [intOf] <;> omega)
    · have il : ¬ (i : Int) < (l.length : Int) := by omega
      have HD : Hid (decide (x ∈ l) = false) := by
        have h := HN.out
        rw [show i = l.length by omega, List.take_length] at h
        exact decide_eq_false h
      go_wp2
      go_ret
      exact ⟨by rw [HD.out]; rfl, rfl⟩

theorem digS_ext (ms : List Nat) (i t : Nat) (h : ms[i]? = some t) : (digS ms).extract i (i + 1) = digS [t] := by
  apply ByteArray.ext
  simp only [digS, ByteArray.data_extract]
  apply Array.ext'
  simp
  rw [List.take_one, List.head?_drop, List.getElem?_map, h]
  rfl
theorem digS_append (a b : List Nat) : digS a ++ digS b = digS (a ++ b) := by
  apply ByteArray.ext
  simp [digS]
/-- The threads of some events. -/
def thsAt (ms : List Nat) (l : List Nat) : List Nat := l.map fun i => ms[i]?.getD 0
def intN (l : List Nat) : List Int := l.map fun (n : Nat) => (n : Int)

set_option maxRecDepth 100000 in
set_option maxHeartbeats 2000000 in
theorem cut_any (ms : List Nat) (hms : ms.length ≤ 60) (a : Option Addr) (c : Nat) (l : List Nat) (hl : l.length ≤ 60) (hin : ∀ i ∈ l, i < ms.length) (n : Nat) (hn : n = l.length) (w : World) (hA : IntsAt w a (intN l)) :
    Calls Try.prog 71 #[.string (digS ms), .slice a n c] w fun e w' => e = .returned (.string (digS (thsAt ms l))) ∧ Below w.heap.size w w' := by
  subst hn
  have hsz := digS_size ms
  go_enter Try.func71, Try.ntmps71
  go_wp2
  go_loopw [5, 6] (fun v y wr => ∃ i : Nat, i ≤ l.length ∧ v = .string (digS (thsAt ms (l.take i))) ∧ y = .int .i64 (i : Int) ∧ Below w.heap.size w wr) (fun _ y _ => l.length - (intOf y).toNat)
  case atStart => exact ⟨0, Nat.zero_le _, by simp [thsAt, digS], rfl, Below.refl _ _⟩
  case round =>
    obtain ⟨i, hi, rfl, rfl, hBr⟩ := hrel
    by_cases hil : i < l.length
    · obtain ⟨k, hk⟩ := get_some l i hil
      have hkm := hin k (List.mem_of_getElem? hk)
      obtain ⟨t, ht⟩ := get_some ms k hkm
      obtain ⟨g, o, e1, c1⟩ := hA i (k : Int) (by simp [intN, hk])
      subst e1
      have c1' := cell_later hBr c1
      have hex := digS_ext ms k t ht
      have HAP : Hid (digS (thsAt ms (l.take i)) ++ digS [t] = digS (thsAt ms (l.take (i + 1)))) := by
        rw [Hid, digS_append, List.take_add_one, hk]
        simp [thsAt, ht]
      have hap := HAP.out
      have i0 : (0 : Int) ≤ (i : Int) := by omega
      have il : (i : Int) < (l.length : Int) := by omega
      have k0 : (0 : Int) ≤ (k : Int) := by omega
      have km : (k : Int) < (ms.length : Int) := by omega
      have hs1 : (digS (thsAt ms (l.take i))).size ≤ 1000 := by rw [digS_size]; simp [thsAt]; omega
      have hs2 : (digS [t]).size = 1 := rfl
      generalize hA2 : digS (thsAt ms (l.take (i + 1))) = A2 at *
      have HA2 : Hid (digS (thsAt ms (l.take (i + 1))) = A2) := hA2
      generalize digS (thsAt ms (l.take i)) = A1 at *
      clear hk ht HAP hA2
      go_upto_region 5 with fail
      go_quiet (fail)
      go_wp2
      go_roundw
      case rel => exact ⟨i + 1, by omega, by rw [HA2.out], rfl, hBr.trans ((below_drewN _ _).mono hBr.size)⟩
      case measure => (simp [intOf] <;> omega)
    · have il : ¬ (i : Int) < (l.length : Int) := by omega
      have HI : Hid (l.take i = l) := by rw [Hid, show i = l.length by omega, List.take_length]
      go_wp2
      go_ret
      exact ⟨by rw [HI.out]; rfl, hBr⟩

/-- A number that is picked lies within its bounds. -/
theorem pick_any (c : Int) (hc0 : -9223372036854775808 ≤ c) (hc1 : c ≤ 9223372036854775807) (n : Nat) (hn : 0 < n) (hn1 : n ≤ 1000) (w : World) :
    Calls Try.prog 40 #[.int .i64 c, .int .i64 n] w fun e w' => (∃ r : Nat, r < n ∧ e = .returned (.int .i64 (r : Int))) ∧ w' = w := by
  have n0 : (0 : Int) < (n : Int) := by omega
  by_cases h : c < 0
  · have hw : IntKind.i64.wrap (c + 1) = c + 1 := by simp [IntKind.wrap, IntKind.signed, IntKind.bits]; omega
    have hw2 : IntKind.i64.wrap (-(c + 1)) = -(c + 1) := by simp [IntKind.wrap, IntKind.signed, IntKind.bits]; omega
    have hr0 := Int.emod_nonneg (-(c + 1)) (show (n : Int) ≠ 0 by omega)
    have hr1 := Int.emod_lt_of_pos (-(c + 1)) n0
    have hnn : (0 : Int) ≤ -(c + 1) := by omega
    have ht : Int.tmod (-(c + 1)) n = (-(c + 1)) % n := Int.tmod_eq_emod_of_nonneg hnn
    go_enter Try.func40, Try.ntmps40
    go_wp2
    go_ret
    exact ⟨⟨((-(c + 1)) % n).toNat, by omega, ret_int (by omega)⟩, rfl⟩
  · have hr0 := Int.emod_nonneg c (show (n : Int) ≠ 0 by omega)
    have hr1 := Int.emod_lt_of_pos c n0
    have hnn : (0 : Int) ≤ c := by omega
    have ht : Int.tmod c n = c % n := Int.tmod_eq_emod_of_nonneg hnn
    go_enter Try.func40, Try.ntmps40
    go_wp2
    go_ret
    exact ⟨⟨(c % n).toNat, by omega, ret_int (by omega)⟩, rfl⟩
end Go.Proofs.Ytdfndcbakcmgiaa
namespace Go.Proofs.Ytdfndcbakcmgiaa
open Go.RowKit

theorem digS_at (ms : List Nat) (i t : Nat) (h : ms[i]? = some t) (ht : t ≤ 100) (hi : i < (digS ms).size) : ((digS ms)[i].toNat : Int) = 48 + t := by
  rw [byteI_in hi]
  obtain ⟨hi', rfl⟩ := List.getElem?_eq_some_iff.1 h
  rw [← byteI_in hi]
  show (((ms.map fun t => UInt8.ofNat (48 + t)).toArray[i]'(by simpa using hi')).toNat : Int) = 48 + ms[i]
  simp only [List.getElem_toArray, List.getElem_map]
  rw [UInt8.toNat_ofNat']; omega

set_option maxRecDepth 100000 in
set_option maxHeartbeats 8000000 in
theorem downwards_any (s : ByteArray) (ms : List Nat) (hms : ms.length ≤ 60) (h100 : ∀ t ∈ ms, t ≤ 100) (B : Nat → Nat → Bool) (hB : ∀ i j : Nat, i < j → j < ms.length → ∀ w, Calls Try.prog 25 #[.string s, .string (digS ms), .int .i64 i, .int .i64 j] w fun e w' => e = .returned (.tuple #[.bool (B i j), .int .i64 0]) ∧ Below w.heap.size w w')
    (l : List Nat) (hl : l.length ≤ 60) (hin : ∀ j ∈ l, j < ms.length) (hrise : l.Pairwise (· < ·)) (hcl : ∀ j ∈ l, ∀ i, i < j → B i j = true → i ∈ l) (hsame : ∀ i j : Nat, i < j → j < ms.length → ms[i]? = ms[j]? → B i j = true)
    (a : Option Addr) (c n : Nat) (hn : n = l.length) (w : World) (hA : IntsAt w a (intN l)) :
    Calls Try.prog 42 #[.string s, .string (digS ms), .slice a n c] w fun e w' => e = .returned (.bool true) ∧ Below w.heap.size w w' := by
  subst hn
  have hsz := digS_size ms
  have hln : (intN l).length = l.length := by simp [intN]
  have hHas := fun (x : Int) w' hA' => has_any a c (intN l) (by rw [hln]; unfold maxLen; omega) x w' hA'
  rw [hln] at hHas
  have HB : Hid (∀ i j : Nat, i < j → j < ms.length → ∀ w, Calls Try.prog 25 #[.string s, .string (digS ms), .int .i64 i, .int .i64 j] w fun e w' => e = .returned (.tuple #[.bool (B i j), .int .i64 0]) ∧ Below w.heap.size w w') := hB
  clear hB
  go_enter Try.func42, Try.ntmps42
  go_wp2
  go_loopw [7] (fun y wr => ∃ k : Nat, k ≤ l.length ∧ y = .int .i64 (k : Int) ∧ Below w.heap.size w wr) (fun y _ => l.length - (intOf y).toNat)
  case atStart => exact ⟨0, Nat.zero_le _, rfl, Below.refl _ _⟩
  case round =>
    obtain ⟨k, hk, rfl, hBr⟩ := hrel
    by_cases hkl : k < l.length
    · obtain ⟨j, hj⟩ := get_some l k hkl
      have hjm := hin j (List.mem_of_getElem? hj)
      have hjl := List.mem_of_getElem? hj
      obtain ⟨g, o, e1, c1⟩ := hA k (j : Int) (by simp [intN, hj])
      subst e1
      have c1' := cell_later hBr c1
      have k0 : (0 : Int) ≤ (k : Int) := by omega
      have kl : (k : Int) < (l.length : Int) := by omega
      have j0 : (0 : Int) ≤ (j : Int) := by omega
      have jm : (j : Int) < (ms.length : Int) := by omega
      have dj1 : decide ((j : Int) < 0) = false := decide_eq_false (by omega)
      have dj2 : decide (ms.length ≤ j) = false := decide_eq_false (by omega)
      go_upto_region 4 with fail
      go_cut [47] (fun v wc => v = .bool false ∧ Below w.heap.size w wc)
      case first =>
        by_cases hk0 : k = 0
        · have k1 : decide (0 < k) = false := decide_eq_false (by omega)
          clear hj hA hrise hcl hsame hHas hk0 c1
          go_quiet (fail)
          go_wp2
          go_meet
          case rel => exact ⟨rfl, hBr.trans ((below_drewN _ _).mono hBr.size)⟩
        · obtain ⟨k', hk'⟩ : ∃ k', k' + 1 = k := ⟨k - 1, by omega⟩
          obtain ⟨j', hj'⟩ := get_some l k' (by omega)
          have hlt : j' < j := by
            obtain ⟨h1, h2⟩ := List.getElem?_eq_some_iff.1 hj
            obtain ⟨h3, h4⟩ := List.getElem?_eq_some_iff.1 hj'
            have := List.pairwise_iff_getElem.1 hrise k' k h3 h1 (by omega)
            omega
          obtain ⟨g2, o2, e2, c2⟩ := hA k' (j' : Int) (by simp [intN, hj'])
          simp only [Option.some.injEq, Addr.mk.injEq, and_true] at e2
          obtain ⟨rfl, rfl⟩ := e2
          have c2' := cell_later hBr c2
          have kk : (k : Int) - 1 = (k' : Int) := by omega
          have k1 : decide (0 < k) = true := decide_eq_true (by omega)
          have k2 : (0 : Int) ≤ (k' : Int) := by omega
          have k3 : (k' : Int) < (l.length : Int) := by omega
          have jj : decide (j ≤ j') = false := decide_eq_false (by omega)
          clear hj hj' hA hrise hcl hsame hHas hk0 hk' c1 c2
          go_quiet (fail)
          go_wp2
          go_meet
          case rel => exact ⟨rfl, hBr.trans ((below_drewN _ _).mono hBr.size)⟩
      case rest =>
        obtain ⟨rfl, hBc⟩ := hcut
        have cc := cell_later hBc c1
        go_wp2
        go_loopw [8] (fun y wq => ∃ i : Nat, i ≤ j ∧ y = .int .i64 (i : Int) ∧ Below w.heap.size w wq) (fun y _ => j - (intOf y).toNat)
        case atStart => exact ⟨0, Nat.zero_le _, rfl, hBc⟩
        case round =>
          obtain ⟨i, hi, rfl, hBq⟩ := hrel
          have cq := cell_later hBq c1
          by_cases hij : i < j
          · have hBf := HB.out i j hij hjm
            have hHi := fun w' hA' => hHas (i : Int) w' hA'
            have hmem : ((i : Int) ∈ intN l) ↔ i ∈ l := by
              simp only [intN, List.mem_map]
              constructor
              · rintro ⟨a, h, e⟩
                have : a = i := by omega
                rw [← this]; exact h
              · exact fun h => ⟨i, h, rfl⟩
            have hc1 := hcl j hjl i hij
            obtain ⟨ti, hti⟩ := get_some ms i (by omega)
            obtain ⟨tj, htj⟩ := get_some ms j hjm
            have hbi := digS_at ms i ti hti (h100 ti (List.mem_of_getElem? hti)) (by omega)
            have hbj := digS_at ms j tj htj (h100 tj (List.mem_of_getElem? htj)) (by omega)
            have hsm := hsame i j hij hjm
            rw [hti, htj] at hsm
            have i0 : (0 : Int) ≤ (i : Int) := by omega
            have im : (i : Int) < (ms.length : Int) := by omega
            have ij : (i : Int) < (j : Int) := by omega
            have HW : Hid (∀ w', Below w.heap.size w w' → IntsAt w' (some ⟨g, o, none⟩) (intN l)) := fun w' hb => hA.below hb
            generalize B i j = b at *
            clear hcl hsame hrise hj hA hHas hti htj
            have hbq := hBf wr
            have hdin : b = true → decide ((i : Int) ∈ intN l) = true := fun h => decide_eq_true (hmem.2 (hc1 h))
            generalize decide ((i : Int) ∈ intN l) = din at *
            cases b with
            | true =>
              have hd := hdin rfl
              subst hd
              clear hdin hc1 hsm hBf hmem
              go_wp2_with (first
                | (go_at_call 25; refine hbq.mono ?_; rintro e w3 ⟨rfl, hb3⟩; have hB3 := hBq.trans (hb3.mono hBq.size); have hI3 := HW.out w3 hB3; have c3 := cell_later hB3 c1)
                | (go_at_call 41; refine (hHi _ hI3).mono ?_; rintro e w4 ⟨rfl, hw⟩; have hw2 := hw.symm; clear hw; subst hw2))
              go_quiet (fail)
              go_wp2
              go_roundw
              case rel => exact ⟨i + 1, by omega, rfl, hB3.trans ((below_drewN _ _).mono hB3.size)⟩
              case measure => (simp [intOf] <;> omega)
            | false =>
              have hne : ti ≠ tj := fun e => by have := hsm (by rw [e]); cases this
              have hbb : ((48 : Int) + (ti : Int) == 48 + (tj : Int)) = false := beq_false_of_ne (by omega)
              clear hdin hc1 hsm hBf hmem
              go_wp2_with (first
                | (go_at_call 25; refine hbq.mono ?_; rintro e w3 ⟨rfl, hb3⟩; have hB3 := hBq.trans (hb3.mono hBq.size); have hI3 := HW.out w3 hB3; have c3 := cell_later hB3 c1)
                | (go_at_call 41; refine (hHi _ hI3).mono ?_; rintro e w4 ⟨rfl, hw⟩; have hw2 := hw.symm; clear hw; subst hw2))
              go_quiet (fail)
              go_wp2
              go_roundw
              case rel => exact ⟨i + 1, by omega, rfl, hB3.trans ((below_drewN _ _).mono hB3.size)⟩
              case measure => (simp [intOf] <;> omega)
          · have ij : ¬ (i : Int) < (j : Int) := by omega
            go_wp2
            go_roundw
            case rel => exact ⟨k + 1, by omega, rfl, hBq⟩
            case measure => (simp [intOf] <;> omega)
    · have kl : ¬ (k : Int) < (l.length : Int) := by omega
      go_wp2
      go_ret
      exact ⟨rfl, hBr⟩
end Go.Proofs.Ytdfndcbakcmgiaa
