import Derived.Test.YtdfndcbakcmgiaaDoorK1
import Derived.Test.YtdfndcbakcmgiaaDoorD9
import Derived.Test.YtdfndcbakcmgiaaDoorP3
import Derived.Test.YtdfndcbakcmgiaaDoorC1
import Derived.Test.YtdfndcbakcmgiaaDoorE12
import Derived.Laws.OwnMore
namespace Go.Proofs.YtdfndcbakcmgiaaDoor
open Go.RowKit

set_option maxRecDepth 100000 in
set_option maxHeartbeats 1000000 in
theorem refRing_any (p : Nat) (W : Wd) (w : World) {gP cP gB cB gL cL gH cH gS cS : Nat} {aG : Option Addr} {cG : Nat} (h : WIn w p W gP cP gB cB gL cL gH cH gS cS aG cG) (G : W.Good) :
    Calls Tryd.prog 12 #[.pointer (some ⟨p, 0, none⟩)] w fun e w' => e = .returned (.bool (ringW W)) ∧ Below w.heap.size w w' := by
  have n5 := G.n5
  have HG : Hid (W.Good) := G
  have HSt : Hid (∀ w' a, Below w.heap.size w w' → a < W.prog.length → Calls Tryd.prog 26 #[.pointer (some ⟨p, 0, none⟩), .int .i64 (a : Int)] w' fun e w'' => e = .returned (.int .i64 (stateOf W a)) ∧ Below w'.heap.size w' w'') := fun w' a hb ha => State_any p a W w' (h.below hb) G ha _ rfl
  have HWt : Hid (∀ w' a, Below w.heap.size w w' → a < W.prog.length → Calls Tryd.prog 28 #[.pointer (some ⟨p, 0, none⟩), .int .i64 (a : Int)] w' fun e w'' => e = .returned (.int .i64 (waitsOf W a)) ∧ Below w'.heap.size w' w'') := fun w' a hb ha => Waits_any p a W w' (h.below hb) G ha _ rfl
  have HRT : Hid (∀ t, t < W.prog.length → ringF W t W.prog.length t = true → ringW W = true) := fun t ht h => List.any_eq_true.2 ⟨t, List.mem_range.2 ht, h⟩
  have HRF : Hid ((∀ t, t < W.prog.length → ringF W t W.prog.length t = false) → ringW W = false) := fun h => by
    rw [Bool.eq_false_iff]
    intro hh
    obtain ⟨t, ht, h2⟩ := List.any_eq_true.1 hh
    rw [h t (List.mem_range.1 ht)] at h2
    cases h2
  have hP := h.fP
  generalize ringW W = res at *
  clear h G
  go_enter Tryd.func12, Tryd.ntmps12
  go_wp2
  go_loopw [3] (fun y wr => ∃ t : Nat, t ≤ W.prog.length ∧ y = .int .i64 (t : Int) ∧ Hid (∀ u, u < t → ringF W u W.prog.length u = false) ∧ Below w.heap.size w wr) (fun y _ => W.prog.length - (intOf y).toNat)
  case atStart => exact ⟨0, Nat.zero_le _, rfl, (fun u hu => absurd hu (by omega)), Below.refl _ _⟩
  case round =>
    obtain ⟨t, ht, rfl, HN, hB⟩ := hrel
    have p0 := cell_later hB hP
    by_cases htl : t < W.prog.length
    · have tl : (t : Int) < (W.prog.length : Int) := by omega
      have HN2 : Hid (ringF W t W.prog.length t = false → ∀ u, u < t + 1 → ringF W u W.prog.length u = false) := fun hv u hu => by
        by_cases he : u = t
        · rw [he]; exact hv
        · exact HN.out u (by omega)
      go_wp2
      go_loopw [4, 5] (fun x y wr => ∃ (k a : Nat), k ≤ W.prog.length ∧ a < W.prog.length ∧ y = .int .i64 (k : Int) ∧ x = .int .i64 (a : Int) ∧ Hid (ringF W t W.prog.length t = ringF W t (W.prog.length - k) a) ∧ Below w.heap.size w wr) (fun _ y _ => W.prog.length - (intOf y).toNat)
      case atStart => exact ⟨0, t, Nat.zero_le _, htl, rfl, rfl, rfl, hB⟩
      case round =>
        clear hB p0
        obtain ⟨k, a, hk, ha, rfl, rfl, HS, hB⟩ := hrel
        have p0 := cell_later hB hP
        by_cases hkl : k < W.prog.length
        · have kl : (k : Int) < (W.prog.length : Int) := by omega
          have hS := HSt.out wr a hB ha
          have hK := fun w' hw => HWt.out w' a hw ha
          have HS2 : Hid (ringF W t W.prog.length t = (if stateOf W a = 2 then (if waitsOf W a = t then true else ringF W t (W.prog.length - (k + 1)) (waitsOf W a).toNat) else false)) := by
            rw [Hid, HS.out, show W.prog.length - k = (W.prog.length - (k + 1)) + 1 by omega, ringF]
          by_cases h2 : stateOf W a = 2
          · obtain ⟨u, hu, hwu⟩ := waits_lt HG.out ha h2
            rw [h2] at hS
            rw [hwu] at hK
            rw [if_pos h2, hwu, Int.toNat_natCast] at HS2
            by_cases hut : u = t
            · have hr : res = true := HRT.out t htl (by rw [HS2.out, if_pos (by rw [hut])])
              subst hr hut
              go_wp2_with (first
                | (go_at_call 26; refine hS.mono ?_; rintro e w1 ⟨rfl, hb1⟩; have hB1 := hB.trans (hb1.mono hB.size))
                | (go_at_call 28; refine (hK _ hB1).mono ?_; rintro e w2 ⟨rfl, hb2⟩))
              go_ret
              exact ⟨rfl, hB1.trans (hb2.mono hB1.size)⟩
            · have hutI : ((u : Int) == (t : Int)) = false := beq_false_of_ne (by omega)
              have HS3 : Hid (ringF W t W.prog.length t = ringF W t (W.prog.length - (k + 1)) u) := by rw [Hid, HS2.out, if_neg (by omega)]
              go_wp2_with (first
                | (go_at_call 26; refine hS.mono ?_; rintro e w1 ⟨rfl, hb1⟩; have hB1 := hB.trans (hb1.mono hB.size))
                | (go_at_call 28; refine (hK _ hB1).mono ?_; rintro e w2 ⟨rfl, hb2⟩))
              go_roundw
              case rel => exact ⟨k + 1, u, by omega, hu, by go_num, rfl, HS3, hB1.trans (hb2.mono hB1.size)⟩
              case measure => (simp [intOf] <;> omega)
          · have hr : ringF W t W.prog.length t = false := by rw [HS2.out, if_neg h2]
            generalize stateOf W a = sa at *
            have h2I : (sa != 2) = true := by simpa using h2
            go_wp2_with (first
              | (go_at_call 26; refine hS.mono ?_; rintro e w1 ⟨rfl, hb1⟩; have hB1 := hB.trans (hb1.mono hB.size)))
            go_roundw
            case rel => exact ⟨t + 1, by omega, by go_num, HN2.out hr, hB1⟩
            case measure => (simp [intOf] <;> omega)
        · have kl : ¬ (k : Int) < (W.prog.length : Int) := by omega
          have hr : ringF W t W.prog.length t = false := by rw [HS.out, show W.prog.length - k = 0 by omega]; rfl
          go_wp2
          go_roundw
          case rel => exact ⟨t + 1, by omega, by go_num, HN2.out hr, hB⟩
          case measure => (simp [intOf] <;> omega)
    · have tl : ¬ (t : Int) < (W.prog.length : Int) := by omega
      have hr := HRF.out fun u hu => HN.out u (by omega)
      subst hr
      go_wp2
      go_ret
      exact ⟨rfl, hB⟩
end Go.Proofs.YtdfndcbakcmgiaaDoor
namespace Go.Proofs.YtdfndcbakcmgiaaDoor
open Go.RowKit

/-! The text that tells states apart, as bytes. -/
def strN (l : List Nat) : ByteArray := ⟨(l.map UInt8.ofNat).toArray⟩
theorem strN_app (a b : List Nat) : strN a ++ strN b = strN (a ++ b) := by
  apply ByteArray.ext
  simp [strN, ByteArray.data_append]
theorem strN_size (l : List Nat) : (strN l).size = l.length := by simp [strN, ByteArray.size]
theorem strN_nil : strN [] = ⟨#[]⟩ := rfl
theorem strN_inj : ∀ {a b : List Nat}, (∀ x ∈ a, x < 256) → (∀ x ∈ b, x < 256) → strN a = strN b → a = b := by
  intro a b ha hb h
  have h2 : a.map UInt8.ofNat = b.map UInt8.ofNat := by
    have := congrArg (fun x => x.data.toList) h
    simpa [strN] using this
  have h3 := congrArg (List.map UInt8.toNat) h2
  rw [List.map_map, List.map_map] at h3
  have e : ∀ l : List Nat, (∀ x ∈ l, x < 256) → l.map (UInt8.toNat ∘ UInt8.ofNat) = l := fun l hl => by
    conv => rhs; rw [← List.map_id l]
    apply List.map_congr_left
    intro x hx
    have := hl x hx
    simp only [Function.comp, UInt8.toNat_ofNat', id]
    omega
  rw [e a ha, e b hb] at h3
  exact h3
theorem lock_one (k : Nat) (h : k < 6) : lockS.extract k (k + 1) = strN [97 + k] := by
  have : k = 0 ∨ k = 1 ∨ k = 2 ∨ k = 3 ∨ k = 4 ∨ k = 5 := by omega
  rcases this with rfl | rfl | rfl | rfl | rfl | rfl <;> decide +kernel
theorem holds_hld (has : List (Option Nat)) (t : Nat) : ∀ (d k : Nat), 6 - k = d → k ≤ 6 → holdsLoop has t k (strN (((List.range k).filter fun k => decide (has[k]?.getD none = some t)).map (97 + ·))) = strN ((hldL has t).map (97 + ·)) := by
  intro d
  induction d with
  | zero =>
    intro k hd hk
    have : k = 6 := by omega
    subst this
    rw [holdsLoop, if_neg (by omega)]; rfl
  | succ d ih =>
    intro k hd hk
    have hk6 : k < 6 := by omega
    have := ih (k + 1) (by omega) (by omega)
    rw [holdsLoop, if_pos hk6, lock_one k hk6, strN_app, ← this, List.range_succ, List.filter_append]
    congr 1
    split
    · rename_i h; simp [h]
    · rename_i h; simp [h]
theorem holdsOf_hld (W : Wd) (t : Nat) : holdsOf W t = strN ((hldL W.has t).map (97 + ·)) := holds_hld W.has t _ 0 rfl (by omega)
theorem hldL_len (has : List (Option Nat)) (t : Nat) : (hldL has t).length ≤ 6 := Nat.le_trans (List.length_filter_le _ _) (by simp)
def segs (W : Wd) (t : Nat) : List Nat := (List.range t).flatMap fun t => segB W t ++ [59]
def flgs (W : Wd) (k : Nat) : List Nat := ((List.range k).filter fun k => W.set[k]?.getD false).map (117 + ·)
theorem segB_len (W : Wd) (t : Nat) : (segB W t).length ≤ 8 := by
  have := hldL_len W.has t
  rw [segB, List.length_cons, List.length_append, List.length_map]
  split <;> simp <;> omega
theorem segs_succ (W : Wd) (t : Nat) : segs W (t + 1) = segs W t ++ (segB W t ++ [59]) := by simp [segs, List.range_succ]
theorem segs_len (W : Wd) : ∀ t, (segs W t).length ≤ 9 * t
  | 0 => by simp [segs]
  | t + 1 => by
    have := segs_len W t
    have := segB_len W t
    rw [segs_succ]; simp; omega
theorem flgs_len (W : Wd) (k : Nat) : (flgs W k).length ≤ k := by
  rw [flgs, List.length_map]
  exact Nat.le_trans (List.length_filter_le _ _) (by simp)
theorem flgs_yes {W : Wd} {k : Nat} (h : W.set[k]? = some true) : flgs W (k + 1) = flgs W k ++ [117 + k] := by simp [flgs, List.range_succ, List.filter_append, h]
theorem flgs_no {W : Wd} {k : Nat} (h : W.set[k]? = some false) : flgs W (k + 1) = flgs W k := by simp [flgs, List.range_succ, List.filter_append, h]
theorem flag_one (k : Nat) (h : k < 6) : (⟨#[117, 118, 119, 120, 121, 122]⟩ : ByteArray).extract k (k + 1) = strN [117 + k] := by
  have : k = 0 ∨ k = 1 ∨ k = 2 ∨ k = 3 ∨ k = 4 ∨ k = 5 := by omega
  rcases this with rfl | rfl | rfl | rfl | rfl | rfl <;> decide +kernel
theorem keyB_lt {W : Wd} (G : W.Good) : ∀ x ∈ keyB W, x < 256 := by
  intro x hx
  rw [keyB, List.mem_append] at hx
  rcases hx with hx | hx
  · obtain ⟨t, ht, hx⟩ := List.mem_flatMap.1 hx
    have ht := List.mem_range.1 ht
    rcases List.mem_append.1 hx with hx | hx
    · rw [segB, List.mem_cons, List.mem_append] at hx
      rcases hx with hx | hx | hx
      · obtain ⟨l, hl⟩ := get_some W.prog t ht
        obtain ⟨n, hn⟩ := get_some W.place t (by rw [G.ok.nl]; exact ht)
        have h1 := G.pl t l n hl hn
        have h2 := G.len t l hl
        rw [hn, Option.getD_some] at hx
        omega
      · split at hx
        · simp at hx; omega
        · cases hx
      · obtain ⟨k, hk, e⟩ := List.mem_map.1 hx
        have := hldL_lt W.has t k hk
        omega
    · simp at hx; omega
  · obtain ⟨k, hk, e⟩ := List.mem_map.1 hx
    have := List.mem_range.1 (List.mem_filter.1 hk).1
    omega
def keyS (W : Wd) : ByteArray := strN (keyB W)
theorem keyS_ms {W V : Wd} (G : W.Good) (G' : V.Good) (hp : V.prog = W.prog) : keyS W = keyS V ↔ msOf W = msOf V := by
  rw [← key_ms G G' hp]
  exact ⟨fun h => strN_inj (keyB_lt G) (keyB_lt G') h, fun h => by rw [keyS, keyS, h]⟩

set_option maxRecDepth 100000 in
set_option maxHeartbeats 1000000 in
theorem key_any (p : Nat) (W : Wd) (w : World) {gP cP gB cB gL cL gH cH gS cS : Nat} {aG : Option Addr} {cG : Nat} (h : WIn w p W gP cP gB cB gL cL gH cH gS cS aG cG) (G : W.Good) :
    Calls Tryd.prog 10 #[.pointer (some ⟨p, 0, none⟩)] w fun e w' => e = .returned (.string (keyS W)) ∧ Below w.heap.size w w' := by
  have n5 := G.n5
  have nb := G.ok.nb
  have nl := G.ok.nl
  have ns := G.ok.ns
  have HG : Hid (W.Good) := G
  have HHo : Hid (∀ w' a, Below w.heap.size w w' → a < W.prog.length → Calls Tryd.prog 24 #[.pointer (some ⟨p, 0, none⟩), .int .i64 (a : Int)] w' fun e w'' => e = .returned (.string (strN ((hldL W.has a).map (97 + ·)))) ∧ Below w'.heap.size w' w'') := fun w' a hb ha => by
    rw [← holdsOf_hld]; exact Holds_any p a W w' (h.below hb) G ha _ rfl
  have hP := h.fP
  have hB' := h.fB
  have hL' := h.fL
  have hS' := h.fS
  have HcB := show Hid _ from h.cB'
  have HcL := show Hid _ from h.cL'
  have HcS := show Hid _ from h.cS'
  have HK : Hid (keyS W = strN (segs W W.prog.length ++ flgs W 6)) := rfl
  rw [HK.out]
  clear h G HK
  go_enter Tryd.func10, Tryd.ntmps10
  go_wp2
  go_loopw [3, 4] (fun s y wr => ∃ t : Nat, t ≤ W.prog.length ∧ y = .int .i64 (t : Int) ∧ s = .string (strN (segs W t)) ∧ Below w.heap.size w wr) (fun _ y _ => W.prog.length - (intOf y).toNat)
  case atStart => exact ⟨0, Nat.zero_le _, rfl, rfl, Below.refl _ _⟩
  case round =>
    obtain ⟨t, ht, rfl, rfl, hB⟩ := hrel
    have p0 := cell_later hB hP
    have hsl := segs_len W t
    have hz := strN_size (segs W t)
    by_cases htl : t < W.prog.length
    · have tl : (t : Int) < (W.prog.length : Int) := by omega
      have t0 : (0 : Int) ≤ (t : Int) := by omega
      obtain ⟨b, hb⟩ := get_some W.born t (by omega)
      obtain ⟨n, hn⟩ := get_some W.place t (by omega)
      obtain ⟨l, hl⟩ := get_some W.prog t htl
      have hn12 : n ≤ 12 := Nat.le_trans (HG.out.pl t l n hl hn) (HG.out.len t l hl)
      have c0 := cell_later hB hL'
      have c1 := cell_later hB (HcL.out t n hn)
      have c2 := cell_later hB hB'
      have c3 := cell_later hB (HcB.out t b hb)
      have hcv := conv1 wr (97 + (n : Int))
      have hcn : (⟨#[UInt8.ofNat ((97 : Int) + n).toNat]⟩ : ByteArray) = strN [97 + n] := by
        rw [strN]; congr 3
      rw [hcn] at hcv
      have z1 := strN_size [97 + n]
      have HSg : Hid (strN (segs W (t + 1)) = strN (segs W t) ++ strN [97 + n] ++ (if b = true then strN [43] else strN []) ++ strN ((hldL W.has t).map (97 + ·)) ++ strN [59]) := by
        rw [Hid, segs_succ, segB, hn, hb]
        cases b <;> simp [strN_app]
      have HH := fun w' hw => HHo.out w' t hw htl
      have hhl := hldL_len W.has t
      have hhz := strN_size ((hldL W.has t).map (97 + ·))
      rw [List.length_map] at hhz
      have e59 : (⟨#[59]⟩ : ByteArray) = strN [59] := rfl
      have e43 : (⟨#[43]⟩ : ByteArray) = strN [43] := rfl
      have z59 : (strN [59]).size = 1 := rfl
      have z43 : (strN [43]).size = 1 := rfl
      have hB1 : Below wr.heap.size wr (wr.alloc (.cells #[.int .u8 (97 + (n : Int))] 5)) := (Below.refl _ _).alloc (Nat.le_refl _) _
      have hBw := hB.trans (hB1.mono hB.size)
      have d0 := cell_later hB1 c2
      have d1 := cell_later hB1 c3
      have HX : Hid (wr.alloc (.cells #[.int .u8 (97 + (n : Int))] 5) = wr.alloc (.cells #[.int .u8 (97 + (n : Int))] 5)) := rfl
      have HHs := HH _ hBw
      generalize strN (segs W t) = S0 at *
      generalize strN [97 + n] = S1 at *
      generalize strN ((hldL W.has t).map (97 + ·)) = S2 at *
      simp only [List.length_singleton] at z1
      cases b with
      | true =>
        rw [if_pos rfl] at HSg
        go_wp2_with (first | (go_at_call 24; refine HHs.mono ?_; rintro e w2 ⟨rfl, hb2⟩))
        go_roundw
        case rel => exact ⟨t + 1, by omega, by go_num, by rw [HSg.out], hBw.trans (hb2.mono hBw.size)⟩
        case measure => (simp [intOf] <;> omega)
      | false =>
        have hsn : S0 ++ S1 ++ strN [] = S0 ++ S1 := by rw [strN_nil]; exact ByteArray.append_empty
        rw [if_neg (by decide), hsn] at HSg
        go_wp2_with (first | (go_at_call 24; refine HHs.mono ?_; rintro e w2 ⟨rfl, hb2⟩))
        go_roundw
        case rel => exact ⟨t + 1, by omega, by go_num, by rw [HSg.out], hBw.trans (hb2.mono hBw.size)⟩
        case measure => (simp [intOf] <;> omega)
    · have tl : ¬ (t : Int) < (W.prog.length : Int) := by omega
      have hte : t = W.prog.length := by omega
      subst hte
      go_wp2
      go_loopw [3, 5] (fun s y wr => ∃ k : Nat, k ≤ 6 ∧ y = .int .i64 (k : Int) ∧ s = .string (strN (segs W W.prog.length ++ flgs W k)) ∧ Below w.heap.size w wr) (fun _ y _ => 6 - (intOf y).toNat)
      case atStart => exact ⟨0, Nat.zero_le _, rfl, by simp [flgs], hB⟩
      case round =>
        clear hB p0
        obtain ⟨k, hk, rfl, rfl, hB⟩ := hrel
        have hfl := flgs_len W k
        have hz2 := strN_size (segs W W.prog.length ++ flgs W k)
        rw [List.length_append] at hz2
        by_cases hk6 : k < 6
        · have kI : (k : Int) < 6 := by omega
          have k0 : (0 : Int) ≤ (k : Int) := by omega
          obtain ⟨b, hb⟩ := get_some W.set k (by omega)
          have c0 := cell_later hB hS'
          have c1 := cell_later hB (HcS.out k b hb)
          have ksl : k < W.set.length := by omega
          cases b with
          | true =>
            have HF : Hid (strN (segs W W.prog.length ++ flgs W (k + 1)) = strN (segs W W.prog.length ++ flgs W k) ++ strN [117 + k]) := by rw [Hid, flgs_yes hb, strN_app, List.append_assoc]
            have hex := flag_one k hk6
            have hz3 := strN_size [117 + k]
            simp only [List.length_singleton] at hz3
            generalize strN (segs W W.prog.length ++ flgs W k) = S0 at *
            generalize strN [117 + k] = S1 at *
            go_wp2
            go_roundw
            case rel => exact ⟨k + 1, by omega, by go_num, by rw [HF.out], hB⟩
            case measure => (simp [intOf] <;> omega)
          | false =>
            have HF : Hid (strN (segs W W.prog.length ++ flgs W (k + 1)) = strN (segs W W.prog.length ++ flgs W k)) := by rw [Hid, flgs_no hb]
            generalize strN (segs W W.prog.length ++ flgs W k) = S0 at *
            go_wp2
            go_roundw
            case rel => exact ⟨k + 1, by omega, by go_num, by rw [HF.out], hB⟩
            case measure => (simp [intOf] <;> omega)
        · have kI : ¬ (k : Int) < 6 := by omega
          have hke : k = 6 := by omega
          subst hke
          go_wp2
          go_ret
          exact ⟨rfl, hB⟩
end Go.Proofs.YtdfndcbakcmgiaaDoor
namespace Go.Proofs.YtdfndcbakcmgiaaDoor
open Go.RowKit

theorem toLoop_goK (sch : ByteArray) : ∀ (ms : List Nat) (k : Nat) (W : Wd), W.Inv → k + ms.length ≤ sch.size → (∀ i (h : i < ms.length), byteI sch (k + i) = 48 + (ms[i] : Nat)) → toLoop sch W k = (goL W ms).bind fun V => toLoop sch V (k + ms.length)
  | [], k, W, _, _, _ => by simp [goL]
  | t :: ms, k, W, I, hl, hb => by
    have hb0 := hb 0 (by simp)
    simp only [Nat.add_zero, List.getElem_cons_zero] at hb0
    have h5 := I.good.n5
    have hlen : k < sch.size := by simp at hl; omega
    rw [toLoop, if_pos hlen, hb0]
    have e : ((48 : Int) + (t : Int) - 48).toNat = t := by omega
    rw [e, goL]
    by_cases hc : t < W.prog.length ∧ stateOf W t = 1
    · rw [if_pos hc, if_pos ⟨by omega, by omega, by omega, hc.2⟩]
      rw [toLoop_goK sch ms (k + 1) _ (moveT_inv I hc.1 hc.2) (by simp at hl; omega) (fun i hi => by
        have := hb (i + 1) (by simpa using hi)
        rw [show k + 1 + i = k + (i + 1) by omega]
        simpa using this)]
      congr 1
      funext V
      congr 1
      simp; omega
    · rw [if_neg hc, if_neg (fun h => hc ⟨by omega, h.2.2.2⟩)]
      rfl
theorem byteI_digK (l : List Nat) (hl : ∀ t ∈ l, t ≤ 100) (k : Nat) (h : k < l.length) : byteI (digS l) k = 48 + (l[k] : Nat) := by
  have h' : k < (digS l).size := by rw [digS_size]; exact h
  rw [← byteI_in h', digS_get l k h' hl]
theorem toLoop_digK (W : Wd) (I : W.Inv) (l : List Nat) (hl : ∀ t ∈ l, t ≤ 100) : toLoop (digS l) W 0 = goL W l := by
  rw [toLoop_goK (digS l) l 0 W I (by rw [digS_size]; omega) (fun i hi => by rw [Nat.zero_add]; exact byteI_digK l hl i hi)]
  cases goL W l with
  | none => rfl
  | some V => simp only [Option.bind_some]; rw [toLoop, if_neg (by rw [digS_size]; omega)]

/-! The worlds that the search comes to. -/
theorem to_nd (s : ByteArray) (h : (ckP s).1 = 0) (hs : s.size ≤ 160) (x : Nd) (hx : x.Ok (beginW (thLoop s 0 0 []))) (w : World) :
    Calls Tryd.prog 11 #[.string s, .string (digS x.l)] w fun e w' => ∃ p, e = .returned (.tuple #[.pointer (some ⟨p, 0, none⟩), .bool true]) ∧ Below w.heap.size w w' ∧ RepW w' w.heap.size p x.W := by
  have I0 := begin_inv s h
  have hlt : ∀ t ∈ x.l, t ≤ 100 := fun t ht => by have := hx.lt t ht; have := I0.good.n5; omega
  refine (To_any s (digS x.l) w hs (by have := hx.small; rw [digS_size]; unfold maxLen; omega) I0).mono fun e w' ⟨hb, hh⟩ => ?_
  rw [toLoop_digK _ I0 _ hlt, hx.go] at hh
  rcases hh with ⟨W, p, h1, h2, h3, _⟩ | ⟨h1, _⟩
  · cases h1
    exact ⟨p, h2, hb, h3⟩
  · cases h1
theorem go_kid {W0 : Wd} {x : Nd} (hx : x.Ok W0) (t : Nat) : goL W0 (x.l ++ [t]) = if t < W0.prog.length ∧ stateOf x.W t = 1 then some (moveT x.W t) else none := by
  rw [goL_snoc, hx.go, ← hx.prog]; rfl
theorem to_kid (s : ByteArray) (h : (ckP s).1 = 0) (hs : s.size ≤ 160) (x : Nd) (hx : x.Ok (beginW (thLoop s 0 0 []))) (t : Nat) (ht : t < (beginW (thLoop s 0 0 [])).prog.length) (h1 : stateOf x.W t = 1) (w : World) :
    Calls Tryd.prog 11 #[.string s, .string (digS x.l ++ nameS t)] w fun e w' => ∃ p, e = .returned (.tuple #[.pointer (some ⟨p, 0, none⟩), .bool true]) ∧ Below w.heap.size w w' ∧ RepW w' w.heap.size p (moveT x.W t) := by
  rw [digS_snoc]
  exact to_nd s h hs ⟨moveT x.W t, x.l ++ [t]⟩ (hx.kid ht h1) w
theorem to_none (s : ByteArray) (h : (ckP s).1 = 0) (hs : s.size ≤ 160) (x : Nd) (hx : x.Ok (beginW (thLoop s 0 0 []))) (t : Nat) (ht : t < (beginW (thLoop s 0 0 [])).prog.length) (h1 : stateOf x.W t ≠ 1) (w : World) :
    Calls Tryd.prog 11 #[.string s, .string (digS x.l ++ nameS t)] w fun e w' => e = .returned (.tuple #[.pointer none, .bool false]) ∧ Below w.heap.size w w' := by
  rw [digS_snoc]
  have I0 := begin_inv s h
  have h5 := I0.good.n5
  have hlt : ∀ u ∈ x.l ++ [t], u ≤ 100 := fun u hu => by
    rcases List.mem_append.1 hu with hu | hu
    · have := hx.lt u hu; omega
    · rw [List.mem_singleton.1 hu]; omega
  refine (To_any s (digS (x.l ++ [t])) w hs (by have := hx.small; rw [digS_size, List.length_append]; unfold maxLen; simp; omega) I0).mono fun e w' ⟨hb, hh⟩ => ?_
  rw [toLoop_digK _ I0 _ hlt, go_kid hx, if_neg fun hc => h1 hc.2] at hh
  rcases hh with ⟨W, p, h1, _⟩ | ⟨_, h2⟩
  · cases h1
  · exact ⟨h2, hb⟩
theorem ring_rep {B p : Nat} {W : Wd} {w : World} (h : RepW w B p W) (I : W.Inv) : Calls Tryd.prog 12 #[.pointer (some ⟨p, 0, none⟩)] w fun e w' => e = .returned (.bool (ringW W)) ∧ Below w.heap.size w w' := by
  obtain ⟨_, _, _, _, _, _, _, _, _, _, _, _, hW⟩ := h.wIn I.good.ok
  exact refRing_any p W w hW I.good
theorem key_rep {B p : Nat} {W : Wd} {w : World} (h : RepW w B p W) (I : W.Inv) : Calls Tryd.prog 10 #[.pointer (some ⟨p, 0, none⟩)] w fun e w' => e = .returned (.string (keyS W)) ∧ Below w.heap.size w w' := by
  obtain ⟨_, _, _, _, _, _, _, _, _, _, _, _, hW⟩ := h.wIn I.good.ok
  exact key_any p W w hW I.good
theorem prog_rep {B p : Nat} {W : Wd} {w : World} (h : RepW w B p W) (I : W.Inv) : B ≤ p ∧ ∃ g c, w.cell? ⟨p, 0, none⟩ = some (.slice (some ⟨g, 0, none⟩) W.prog.length c) := by
  obtain ⟨_, _, _, _, _, _, _, _, _, _, _, _, hW⟩ := h.wIn I.good.ok
  refine ⟨?_, _, _, hW.fP⟩
  obtain ⟨v, inner, _, hf⟩ := h
  have o0 := hf.own (r := ⟨47, 1, .slice (some ⟨p, 0, none⟩) 6 6, 6, [v.P, v.B, v.L, v.H, v.S, v.G]⟩) (by simp [famW])
  exact (World.ownsRow.lt o0 p rfl).1

/-! Two rows of texts that grow, and one that is read. -/
def strV (l : List ByteArray) : List Value := l.map Value.string
structure SQ (w0 w : World) (vs vd : Value) (S D : List ByteArray) : Prop where
  below : Below w0.heap.size w0 w
  seen : w.ownsRow w0.heap.size 9 1 vs S.length (strV S)
  deep : w.ownsRow w0.heap.size 9 1 vd D.length (strV D)
  ne : ∀ g, vs.ownBlock = some g → vd.ownBlock ≠ some g
structure Kt (vs vd vs' vd' : Value) (w w' : World) : Prop where
  size : w.heap.size ≤ w'.heap.size
  blk : ∀ b, b < w.heap.size → some b ≠ vs.ownBlock → some b ≠ vd.ownBlock → w'.heap[b]? = w.heap[b]?
  fs : Fresh w vs vs'
  fd : Fresh w vd vd'
theorem Kt.ofBelow {vs vd : Value} {w w' : World} (h : Below w.heap.size w w') : Kt vs vd vs vd w w' := ⟨h.size, fun b hb _ _ => h.block b hb, .inl rfl, .inl rfl⟩
theorem fresh_ne {w : World} {v v' : Value} (h : Fresh w v v') {b : Nat} (hb : b < w.heap.size) (hn : some b ≠ v.ownBlock) : some b ≠ v'.ownBlock := by
  rcases h with e | ⟨g, e, hg⟩
  · rw [e]; exact hn
  · rw [e]; intro hh; cases hh; omega
theorem fresh_trans {w w1 : World} {v v1 v2 : Value} (hs : w.heap.size ≤ w1.heap.size) (h : Fresh w v v1) (k : Fresh w1 v1 v2) : Fresh w v v2 := by
  rcases k with e | ⟨g, e, hg⟩
  · rcases h with e2 | ⟨g, e2, hg⟩
    · exact .inl (e.trans e2)
    · exact .inr ⟨g, e.trans e2, hg⟩
  · exact .inr ⟨g, e, by omega⟩
theorem Kt.trans {vs vd vs1 vd1 vs2 vd2 : Value} {w w1 w2 : World} (h : Kt vs vd vs1 vd1 w w1) (k : Kt vs1 vd1 vs2 vd2 w1 w2) : Kt vs vd vs2 vd2 w w2 := by
  have hs := h.size
  refine ⟨Nat.le_trans h.size k.size, fun b hb h1 h2 => ?_, fresh_trans hs h.fs k.fs, fresh_trans hs h.fd k.fd⟩
  rw [k.blk b (by omega) (fresh_ne h.fs hb h1) (fresh_ne h.fd hb h2), h.blk b hb h1 h2]
theorem cell_blk {w w' : World} {b : Nat} (h : w'.heap[b]? = w.heap[b]?) (j : Nat) : w'.cell? ⟨b, j, none⟩ = w.cell? ⟨b, j, none⟩ := by
  simp only [World.cell?, h]
theorem Kt.cell {vs vd vs' vd' : Value} {w w' : World} (k : Kt vs vd vs' vd' w w') {b j : Nat} {u : Value} (h : w.cell? ⟨b, j, none⟩ = some u) (h1 : some b ≠ vs.ownBlock) (h2 : some b ≠ vd.ownBlock) : w'.cell? ⟨b, j, none⟩ = some u := by
  rw [cell_blk (k.blk b (World.block_lt_of_cell? w _ h) h1 h2)]; exact h
theorem SQ.later {w0 w w' : World} {vs vd : Value} {S D : List ByteArray} (h : SQ w0 w vs vd S D) (hb : Below w.heap.size w w') : SQ w0 w' vs vd S D :=
  ⟨h.below.trans (hb.mono h.below.size), h.seen.kept (grownBy_of_below hb) (by cases vs.ownBlock <;> simp), h.deep.kept (grownBy_of_below hb) (by cases vd.ownBlock <;> simp), h.ne⟩
theorem own_far {w w5 : World} {B : Nat} {e : TypeId} {n : Nat} {v : Value} {xs : List Value} {row : Option Nat} (h : w.ownsRow B e 1 v n xs) (hg : w.grownBy w5 row) (hne : ∀ g, v.ownBlock = some g → row ≠ some g) : w5.ownsRow B e 1 v n xs := by
  refine h.kept hg ?_
  cases hv : v.ownBlock with
  | none => exact .inl rfl
  | some g => exact .inr (by intro hh; exact hne g hv hh.symm)
theorem fresh_apart {wa : World} {v v5 u : Value} (hf : Fresh wa v v5) (hu : ∀ g, u.ownBlock = some g → g < wa.heap.size) (hne : ∀ g, u.ownBlock = some g → v.ownBlock ≠ some g) : ∀ g, u.ownBlock = some g → v5.ownBlock ≠ some g := fun g hg => by
  rcases hf with e | ⟨g', e, hg'⟩
  · rw [e]; exact hne g hg
  · rw [e]; intro hh; cases hh; have := hu g hg; omega
theorem SQ.pushS {w0 w wa w5 : World} {vs vd v5 : Value} {S D : List ByteArray} (h : SQ w0 w vs vd S D) (hb : Below w.heap.size w wa) {x : ByteArray} (ho : w5.ownsRow w0.heap.size 9 1 v5 (S.length + 1) (strV S ++ [Value.string x])) (hg : wa.grownBy w5 vs.ownBlock) (hf : Fresh wa vs v5) :
    SQ w0 w5 v5 vd (S ++ [x]) D ∧ Kt vs vd v5 vd w w5 := by
  have ha := h.later hb
  have hsz := hb.size
  have hne2 : ∀ g, vd.ownBlock = some g → vs.ownBlock ≠ some g := fun g hg hh => h.ne g hh hg
  refine ⟨⟨below_grown ha.below ha.below.size hg (fun k hk => (World.ownsRow.lt ha.seen k hk).1), ?_, own_far ha.deep hg hne2, ?_⟩, ⟨Nat.le_trans hsz hg.size, fun b hb' h1 _ => ?_, ?_, .inl rfl⟩⟩
  · rw [List.length_append, strV, List.map_append]; exact ho
  · intro g hg5 hgd
    exact fresh_apart hf (fun g hg => (World.ownsRow.lt ha.deep g hg).2) hne2 g hgd hg5
  · rw [hg.block b (by omega) h1, hb.block b hb']
  · rcases hf with e | ⟨g, e, hg'⟩
    · exact .inl e
    · exact .inr ⟨g, e, by omega⟩
theorem SQ.pushD {w0 w wa w5 : World} {vs vd v5 : Value} {S D : List ByteArray} (h : SQ w0 w vs vd S D) (hb : Below w.heap.size w wa) {x : ByteArray} (ho : w5.ownsRow w0.heap.size 9 1 v5 (D.length + 1) (strV D ++ [Value.string x])) (hg : wa.grownBy w5 vd.ownBlock) (hf : Fresh wa vd v5) :
    SQ w0 w5 vs v5 S (D ++ [x]) ∧ Kt vs vd vs v5 w w5 := by
  have ha := h.later hb
  have hsz := hb.size
  refine ⟨⟨below_grown ha.below ha.below.size hg (fun k hk => (World.ownsRow.lt ha.deep k hk).1), own_far ha.seen hg h.ne, ?_, ?_⟩, ⟨Nat.le_trans hsz hg.size, fun b hb' _ h2 => ?_, .inl rfl, ?_⟩⟩
  · rw [List.length_append, strV, List.map_append]; exact ho
  · exact fresh_apart hf (fun g hg => (World.ownsRow.lt ha.seen g hg).2) h.ne
  · rw [hg.block b (by omega) h2, hb.block b hb']
  · rcases hf with e | ⟨g, e, hg'⟩
    · exact .inl e
    · exact .inr ⟨g, e, by omega⟩
theorem row_at {w : World} {B : Nat} {v : Value} {l : List ByteArray} (h : w.ownsRow B 9 1 v l.length (strV l)) : ∃ a c, v = .slice a l.length c ∧ ∀ k x, l[k]? = some x → ∃ g, a = some ⟨g, 0, none⟩ ∧ w.cell? ⟨g, k, none⟩ = some (.string x) ∧ v.ownBlock = some g := by
  rcases h.2 with ⟨h1, h2⟩ | ⟨g, cap, cur, h1, _⟩
  · refine ⟨none, 0, by rw [h1, h2], fun k x hx => ?_⟩
    have := (List.getElem?_eq_some_iff.1 hx).1
    omega
  · subst h1
    refine ⟨_, cap, rfl, fun k x hx => ⟨g, rfl, ?_, rfl⟩⟩
    have hk := (List.getElem?_eq_some_iff.1 hx).1
    rw [h.cellAt k (by omega)]
    simp [strV, hx]
/-- The level that is read. -/
structure LvAt (w : World) (a : Option Addr) (vs vd : Value) (L : List ByteArray) : Prop where
  at' : ∀ k x, L[k]? = some x → ∃ g, a = some ⟨g, 0, none⟩ ∧ w.cell? ⟨g, k, none⟩ = some (.string x) ∧ some g ≠ vs.ownBlock ∧ some g ≠ vd.ownBlock
theorem LvAt.kept {w w' : World} {a : Option Addr} {vs vd vs' vd' : Value} {L : List ByteArray} (h : LvAt w a vs vd L) (k : Kt vs vd vs' vd' w w') : LvAt w' a vs' vd' L := ⟨fun i x hx => by
  obtain ⟨g, h1, h2, h3, h4⟩ := h.at' i x hx
  have hlt := World.block_lt_of_cell? w _ h2
  exact ⟨g, h1, k.cell h2 h3 h4, fresh_ne k.fs hlt h3, fresh_ne k.fd hlt h4⟩⟩
theorem SQ.level {w0 w : World} {vs vd : Value} {S D : List ByteArray} (h : SQ w0 w vs vd S D) : ∃ a c, vd = .slice a D.length c ∧ LvAt w a vs (.slice none 0 0) D ∧ SQ w0 w vs (.slice none 0 0) S [] := by
  obtain ⟨a, c, hv, hc⟩ := row_at h.deep
  refine ⟨a, c, hv, ⟨fun k x hx => ?_⟩, ⟨h.below, h.seen, World.ownsRow_nil _ _ _ _, fun g _ => by simp [Value.ownBlock]⟩⟩
  obtain ⟨g, h1, h2, h3⟩ := hc k x hx
  exact ⟨g, h1, h2, fun hh => h.ne g hh.symm h3, by simp [Value.ownBlock]⟩
theorem SQ.start {w0 w : World} (hb : Below w0.heap.size w0 w) (x : ByteArray) : SQ w0 (w.alloc (.cells #[.string x] 9)) (.slice (some ⟨w.heap.size, 0, none⟩) 1 1) (.slice none 0 0) [x] [] := by
  refine ⟨hb.alloc hb.size _, ?_, World.ownsRow_nil _ _ _ _, fun g _ => by simp [Value.ownBlock]⟩
  exact World.ownsRow_lit w #[.string x] 1 hb.size (by unfold maxLen; omega) rfl
end Go.Proofs.YtdfndcbakcmgiaaDoor
