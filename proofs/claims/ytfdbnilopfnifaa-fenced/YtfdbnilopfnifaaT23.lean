import Derived.Test.YtfdbnilopfnifaaT22
import Derived.Deep.AppendLies
namespace Go.Proofs.Ytfdbnilopfnifaa
open Go.RowKit

def LogPl (log : List Ev) : Prop := ∀ v ∈ log, ∃ p : Nat, v.place = p
theorem toLoop_logPl (sch : ByteArray) : ∀ (n k : Nat) (W0 W : Wd), sch.size - k = n → LogPl W0.log → toLoop sch W0 k = some W → LogPl W.log := by
  intro n
  induction n with
  | zero =>
    intro k W0 W hn hL h
    rw [toLoop, if_neg (by omega)] at h
    cases h; exact hL
  | succ n ih =>
    intro k W0 W hn hL h
    rw [toLoop, if_pos (by omega)] at h
    split at h
    · refine ih (k + 1) _ W (by omega) ?_ h
      rw [moveT_evAt]
      intro v hv
      rcases List.mem_append.1 hv with hv | hv
      · exact hL v hv
      · simp only [List.mem_singleton] at hv
        subst hv
        exact ⟨_, rfl⟩
    · cases h
theorem doSt_two {W : Wd} {t : Nat} {d : ByteArray} (h : doSt W t d = 2) : 97 ≤ byteI d 0 ∧ byteI d 0 ≤ 102 := by
  unfold doSt at h
  by_cases hc : 97 ≤ byteI d 0 ∧ byteI d 0 ≤ 102
  · exact hc
  · rw [if_neg hc] at h
    repeat' split at h
    all_goals simp at h
theorem wantsE_ok {W : Wd} (G : W.Good) : ∀ v ∈ wantsE W W.prog.length, EvOk W.prog.length v ∧ (stpOf v.txt).kind = 1 := by
  intro v hv
  simp only [wantsE, List.mem_map, List.mem_filter, List.mem_range, decide_eq_true_iff] at hv
  obtain ⟨t, ⟨ht, h2⟩, rfl⟩ := hv
  obtain ⟨n, l, d, A, hst⟩ := stateOf_at W t (by omega) (by omega) G ht
  have hd := G.dok t l n d A.prog A.txt
  have e : (evAt W t).txt = d := by simp [evAt, A.prog, A.place, A.txt]
  have hdo : doSt W t d = 2 := by rw [← hst]; exact h2
  have hb := doSt_two hdo
  refine ⟨⟨by rw [e]; exact hd, t, rfl, ht⟩, ?_⟩
  rw [e]
  have hk := stpOf_kd hd
  generalize stpOf d = x at hk
  cases hk with
  | take k _ _ => rfl
  | _ => exfalso; omega
theorem wantsE_pl (W : Wd) (t : Nat) : LogPl (wantsE W t) := by
  intro v hv
  simp only [wantsE, List.mem_map] at hv
  obtain ⟨u, _, rfl⟩ := hv
  exact ⟨_, rfl⟩

theorem asks_bad (s sch : ByteArray) (x : Int) (hx : x ≠ 0) (w : World) (hwd : ∀ w, Calls Try.prog 57 #[.string s, .string sch] w fun e w' => e = .returned (.tuple #[nilTr, .int .i64 x]) ∧ Below w.heap.size w w') :
    Calls Try.prog 22 #[.string s, .string sch] w fun e w' => e = .returned (.tuple #[.slice none 0 0, .int .i64 x]) ∧ Below w.heap.size w w' := by
  have hb : (x != 0) = true := by simpa using hx
  go_enter Try.func22, Try.ntmps22
  go_wp2_with (first | (go_at_call 57; refine (hwd _).mono ?_; rintro e w1 ⟨he, hB1⟩; rw [nilTr] at he; subst he))
  go_ret2
  exact ⟨rfl, hB1.alloc hB1.size _⟩

set_option maxRecDepth 100000 in
set_option maxHeartbeats 2000000 in
theorem asks_ok (s sch : ByteArray) (hsch : sch.size ≤ maxLen) (w : World) (h0 : (ckP s).1 = 0) (W : Wd) (hW : toLoop sch (beginW (thLoop s 0 0 [])) 0 = some W) :
    Calls Try.prog 22 #[.string s, .string sch] w fun e w' => ∃ g c, e = .returned (.tuple #[.slice (some ⟨g, 0, none⟩) (asksW W).length c, .int .i64 0]) ∧ Below w.heap.size w w' ∧ rowA w' w.heap.size g c (asksW W) := by
  have I0 := begin_inv s h0
  have hwd := fun w => traceOf_ok s sch hsch w h0 W hW
  have hLO := toLoop_logOk sch _ 0 _ W rfl I0 (begin_logOk _) hW
  have hLP := toLoop_logPl sch _ 0 _ W rfl (by rw [begin_log]; intro v hv; simp at hv) hW
  have I := (toLoop_inv sch _ 0 _ W rfl I0 hW).1
  have hA := fun g c g' c' w hE hE' => AsksT_any g c g' c' (n := W.prog.length) W.log (wantsE W W.prog.length) hLO I.small (wantsE_ok I.good) (Nat.le_trans (wantsE_len W _) I.good.n5) w hE hE' hLP (wantsE_pl W _)
  have hdef : asks1 W.log W.log.length ++ asks2 (wantsE W W.prog.length) (wantsE W W.prog.length).length = asksW W := rfl
  rw [hdef] at hA
  generalize asksW W = al at *
  generalize wantsE W W.prog.length = wl at *
  clear hdef hLO hLP I I0 hW h0
  go_enter Try.func22, Try.ntmps22
  go_wp2_with (first
    | (go_at_call 57; refine (hwd _).mono ?_; rintro e w1 ⟨g, c, g', c', rfl, hm, hm', hB1, hg, hg'⟩; have hBX := hB1.alloc hB1.size (.cells #[.slice (some ⟨g, 0, none⟩) W.log.length c, .slice (some ⟨g', 0, none⟩) wl.length c'] 104); have hmX := hm.below ((Below.refl _ _).alloc (Nat.le_refl _) (.cells #[.slice (some ⟨g, 0, none⟩) W.log.length c, .slice (some ⟨g', 0, none⟩) wl.length c'] 104)); have hmX' := hm'.below ((Below.refl _ _).alloc (Nat.le_refl _) (.cells #[.slice (some ⟨g, 0, none⟩) W.log.length c, .slice (some ⟨g', 0, none⟩) wl.length c'] 104)))
    | (go_at_call 58; refine (hA _ _ _ _ _ hmX hmX').mono ?_; rintro e w2 ⟨ga, ca, rfl, hb2, ho2⟩))
  go_ret2
  exact ⟨ga, ca, rfl, hBX.trans (hb2.mono hBX.size), ownsRow_mono (B := _) (B' := w.heap.size) ho2 hBX.size⟩
end Go.Proofs.Ytfdbnilopfnifaa
namespace Go.Proofs.Ytfdbnilopfnifaa
open Go.RowKit

/-! The locks of a thread, by their numbers. -/
def heldL (has : List (Option Nat)) (t : Nat) : List Nat := (List.range 6).filter fun k => decide (has[k]?.getD none = some t)
theorem holds_held (has : List (Option Nat)) (t : Nat) : ∀ (d k : Nat), 6 - k = d → k ≤ 6 → holdsLoop has t k (letS 97 ((List.range k).filter fun k => decide (has[k]?.getD none = some t))) = letS 97 (heldL has t) := by
  intro d
  induction d with
  | zero =>
    intro k hd hk
    have : k = 6 := by omega
    subst this
    rw [holdsLoop, if_neg (by omega)]; rfl
  | succ d ih =>
    intro k hd hk
    have hk6 : k < 6 := by omega
    have := ih (k + 1) (by omega) (by omega)
    rw [holdsLoop, if_pos hk6, lock_let k hk6, letS_snoc, ← this, List.range_succ, List.filter_append]
    congr 1
    split
    · rename_i h; simp [h]
    · rename_i h; simp [h]
theorem holdsOf_held (W : Wd) (t : Nat) : holdsOf W t = letS 97 (heldL W.has t) := holds_held W.has t _ 0 rfl (by omega)
theorem heldL_mem {has : List (Option Nat)} {t k : Nat} : k ∈ heldL has t ↔ k < 6 ∧ has[k]?.getD none = some t := by simp [heldL]
theorem heldL_lt (has : List (Option Nat)) (t : Nat) : (heldL has t).Pairwise (· < ·) := List.Pairwise.filter _ List.pairwise_lt_range
theorem heldL_len (has : List (Option Nat)) (t : Nat) : (heldL has t).length ≤ 6 := Nat.le_trans (List.length_filter_le _ _) (by simp)
def allL (has : List (Option Nat)) : Nat → List Nat
  | 0 => []
  | t + 1 => allL has t ++ heldL has t
theorem allL_mem {has : List (Option Nat)} {k : Nat} : ∀ {t : Nat}, k ∈ allL has t → ∃ u, u < t ∧ k ∈ heldL has u
  | 0, h => by simp [allL] at h
  | t + 1, h => by
    rw [allL, List.mem_append] at h
    rcases h with h | h
    · obtain ⟨u, hu, hk⟩ := allL_mem h
      exact ⟨u, by omega, hk⟩
    · exact ⟨t, by omega, h⟩
theorem allL_len (has : List (Option Nat)) : ∀ t, (allL has t).length ≤ 6 * t
  | 0 => Nat.le_refl _
  | t + 1 => by
    rw [allL, List.length_append]
    have := allL_len has t
    have := heldL_len has t
    omega
theorem not_twice {has : List (Option Nat)} {t i k : Nat} (hk : (heldL has t)[i]? = some k) : k ∉ allL has t ++ (heldL has t).take i := by
  intro h
  have hm := heldL_mem.1 (List.mem_of_getElem? hk)
  rcases List.mem_append.1 h with h | h
  · obtain ⟨u, hu, hku⟩ := allL_mem h
    have := (heldL_mem.1 hku).2
    rw [hm.2] at this
    cases this
    omega
  · obtain ⟨j, hj, he⟩ := List.getElem_of_mem h
    have hj' : j < i := by have := hj; simp at this; omega
    rw [List.getElem_take] at he
    obtain ⟨hi, he2⟩ := List.getElem?_eq_some_iff.1 hk
    have := List.pairwise_iff_getElem.1 (heldL_lt has t) j i (by omega) hi hj'
    omega

theorem letS_size (c : Nat) (l : List Nat) : (letS c l).size = l.length := by simp [letS, ByteArray.size]
theorem letS_ext (c : Nat) (l : List Nat) (i : Nat) (k : Nat) (h : l[i]? = some k) : (letS c l).extract i (i + 1) = letS c [k] := by
  obtain ⟨hi, rfl⟩ := List.getElem?_eq_some_iff.1 h
  apply ByteArray.ext
  simp only [letS, ByteArray.data_extract]
  apply Array.ext'
  simp
  rw [List.take_one, List.head?_drop, List.getElem?_map, h]
  rfl
theorem letS_one (a b : Nat) (ha : a < 100) (hb : b < 100) : ((letS 97 [a]).toList == (letS 97 [b]).toList) = decide (a = b) := by
  by_cases h : a = b
  · subst h; simp
  · rw [decide_eq_false h]
    refine beq_false_of_ne fun hh => h ?_
    rw [ByteArray.toList_eq, ByteArray.toList_eq] at hh
    simp only [letS, List.map_cons, List.map_nil, List.cons.injEq, and_true] at hh
    have := congrArg UInt8.toNat hh
    rw [UInt8.toNat_ofNat', UInt8.toNat_ofNat'] at this
    omega

set_option maxRecDepth 100000 in
set_option maxHeartbeats 2000000 in
theorem letter_any (k : Nat) (hk : k < 6) (l : List Nat) (hl : l.length ≤ 1000) (h6 : ∀ x ∈ l, x < 6) (w : World) :
    Calls Try.prog 70 #[.string (letS 97 [k]), .string (letS 97 l)] w fun e w' => e = .returned (.bool (decide (k ∈ l))) ∧ w' = w := by
  have hsz := letS_size 97 l
  go_enter Try.func70, Try.ntmps70
  go_wp2
  go_loop [5] (fun x => ∃ i : Nat, i ≤ l.length ∧ x = .int .i64 (i : Int) ∧ Hid (k ∉ l.take i)) (fun x => l.length - (intOf x).toNat)
  case atStart => exact ⟨0, Nat.zero_le _, rfl, by simp [Hid]⟩
  case round =>
    obtain ⟨i, hi, rfl, HN⟩ := hrel
    by_cases hil : i < l.length
    · obtain ⟨x, hx⟩ := get_some l i hil
      have hex := letS_ext 97 l i x hx
      have hx6 := h6 x (List.mem_of_getElem? hx)
      have heq := letS_one x k (by omega) (by omega)
      have i0 : (0 : Int) ≤ (i : Int) := by omega
      have il : (i : Int) < (l.length : Int) := by omega
      by_cases hxk : x = k
      · have HD : Hid (decide (k ∈ l) = true) := decide_eq_true (by rw [← hxk]; exact List.mem_of_getElem? hx)
        rw [decide_eq_true hxk] at heq
        clear hx
        go_wp2
        go_ret
        exact ⟨by rw [HD.out]; rfl, rfl⟩
      · have HN2 : Hid (k ∉ l.take (i + 1)) := by
          rw [Hid, List.take_add_one, hx]
          intro h
          rcases List.mem_append.1 h with h | h
          · exact HN.out h
          · simp at h; exact hxk h.symm
        rw [decide_eq_false hxk] at heq
        clear hx
        go_wp2
        go_round
        case rel => exact ⟨i + 1, by omega, rfl, HN2⟩
        case measure => (simp [intOf] <;> omega)
    · have il : ¬ (i : Int) < (l.length : Int) := by omega
      have HD : Hid (decide (k ∈ l) = false) := by
        have h := HN.out
        rw [show i = l.length by omega, List.take_length] at h
        exact decide_eq_false h
      go_wp2
      go_ret
      exact ⟨by rw [HD.out]; rfl, rfl⟩
end Go.Proofs.Ytfdbnilopfnifaa
namespace Go.Proofs.Ytfdbnilopfnifaa
open Go.RowKit

theorem ownsRow_below {w w' : World} {B : Nat} {e : TypeId} {size n : Nat} {v : Value} {xs : List Value} (h : w.ownsRow B e size v n xs) (hb : Below w.heap.size w w') : w'.ownsRow B e size v n xs :=
  h.kept (grownBy_of_below hb) (by cases hv : v.ownBlock <;> simp)
abbrev rowAv (w : World) (B : Nat) (v : Value) (l : List Ak) : Prop := w.ownsRow B 42 5 v l.length (l.flatMap akCells)

set_option maxRecDepth 100000 in
set_option maxHeartbeats 8000000 in
theorem refasks_any (p : Nat) (W : Wd) (w : World) {gP cP gB cB gL cL gH cH gS cS : Nat} {aG : Option Addr} {cG : Nat} (h : WIn w p W gP cP gB cB gL cL gH cH gS cS aG cG) (I : W.Inv) (hL : LogOk W) :
    Calls Try.prog 59 #[.pointer (some ⟨p, 0, none⟩)] w fun e w' => ∃ v, e = .returned v ∧ Below w.heap.size w w' ∧ rowAv w' w.heap.size v (asksW W) := by
  have fG := h.fG
  have fP := h.fP
  have hsm := I.small
  have h5 := I.good.n5
  have hr0 := World.ownsRow_nil w w.heap.size 42 5
  go_enter Try.func59, Try.ntmps59
  go_wp2
  go_loopw [3, 4] (fun v i wr => ∃ t : Nat, t ≤ W.log.length ∧ i = .int .i64 (t : Int) ∧ rowAv wr w.heap.size v (asks1 W.log t) ∧ Below w.heap.size w wr) (fun _ i _ => W.log.length - (intOf i).toNat)
  case atStart => exact ⟨0, Nat.zero_le _, rfl, by simpa [rowAv, asks1] using hr0, Below.refl _ _⟩
  case round =>
    obtain ⟨t, ht, rfl, hown, hBr⟩ := hrel
    have fG' := cell_later hBr fG
    by_cases htl : t < W.log.length
    · obtain ⟨e, he⟩ := get_some W.log t htl
      obtain ⟨g, hg, hc⟩ := h.cG' (by intro hh; rw [hh] at htl; simp at htl)
      subst hg
      obtain ⟨d0, d1, d2, d3⟩ := hc t e he
      rw [Nat.mul_comm 4 t] at d0 d1 d2 d3
      have d0' := cell_later hBr d0
      have d1' := cell_later hBr d1
      have d2' := cell_later hBr d2
      have d3' := cell_later hBr d3
      have oe := hL e (List.mem_of_getElem? he)
      have hkd := stpOf_kd oe.dok
      have hsz1 : 1 ≤ e.txt.size := oe.dok.size
      have hd0 : 0 < e.txt.size := by omega
      have hbi := byteI_in hd0
      have hb0 := byteI_lo e.txt 0
      have hb9 := byteI_hi e.txt 0
      have t0 : (0 : Int) ≤ (t : Int) := by omega
      have tl : (t : Int) < (W.log.length : Int) := by omega
      have hal := asks1_len W.log t
      have HA : Hid (asks1 W.log (t + 1) = asks1 W.log t ++ (if takeB e = true then [askE e t] else [])) := by rw [Hid, asks1, he]; rfl
      have hszr := hBr.size
      have hBa := hBr.alloc hszr (.cells #[.int .i64 e.thread, .int .i64 e.place, .string e.txt, .string e.holds] 128)
      have hown1 := hown.alloc (.cells #[.int .i64 e.thread, .int .i64 e.place, .string e.txt, .string e.holds] 128)
      by_cases hlk : 97 ≤ byteI e.txt 0 ∧ byteI e.txt 0 ≤ 102
      · have h1 : (stpOf e.txt).kind = 1 := by
          generalize stpOf e.txt = x at hkd
          cases hkd with
          | take _ _ _ => rfl
          | _ => exfalso; omega
        rw [if_pos (by simp [takeB, h1])] at HA
        have e1 : atI ⟨#[97, 98, 99, 100, 101, 102]⟩ (byteI e.txt 0) = byteI e.txt 0 - 97 := by rw [atI_lock (by omega) (by omega), atR_yes (by omega) (by omega)]
        obtain ⟨eth, epl, etx, eho⟩ := e
        simp only [askE] at *
        clear hkd he hc h1 hL h d0 d1 d2 d3 oe
        go_wp2_with (first
          | (go_at_call 77; refine (at_n _ _ _ (by omega) (by omega) (by decide)).mono ?_; rintro e w2 ⟨rfl, hw⟩; have hw2 := hw.symm; clear hw; subst hw2)
          | (at_builtin; go_loud (refine wpList_appendLit _ rfl _ _ 37 rfl w.heap.size 42 (.agg #[.int .i64 0, .int .i64 0, .string ⟨#[]⟩, .string ⟨#[]⟩, .int .i64 0]) 5 56 Try.underlying37 infoAsk rfl (by decide) _ _ _ rfl hown1 _ _ (by simp) rfl rfl ?c2 ?c3 ?c4 ?c5 ?_)))
        case c2 => exact ⟨rfl, rfl, rfl, rfl, rfl⟩
        case c3 => omega
        case c4 => omega
        case c5 => simp; omega
        intro v' w3 ho3 hg3 hf3 hn3
        have hB3 : Below w.heap.size w w3 := below_grown (hBa.alloc hBa.size _) (by simp; omega) hg3 (fun k hk => (World.ownsRow.lt hown1 k hk).1)
        clear hg3 hf3 hn3 hown hown1
        go_wp2
        go_roundw
        case rel =>
          refine ⟨t + 1, by omega, rfl, ?_, hB3⟩
          rw [rowAv, HA.out]
          simpa [akCells] using ho3
        case measure => (simp [intOf] <;> omega)
      · have h1 : (stpOf e.txt).kind ≠ 1 := by
          generalize stpOf e.txt = x at hkd
          cases hkd with
          | take _ _ _ => exfalso; omega
          | _ => simp
        rw [if_neg (by simp [takeB, h1]), List.append_nil] at HA
        have e1 : atI ⟨#[97, 98, 99, 100, 101, 102]⟩ (byteI e.txt 0) = -1 := by rw [atI_lock (by omega) (by omega), atR_no (by omega)]
        obtain ⟨eth, epl, etx, eho⟩ := e
        simp only at *
        clear hkd he hc h1 hL h d0 d1 d2 d3 oe
        go_wp2_with (first
          | (go_at_call 77; refine (at_n _ _ _ (by omega) (by omega) (by decide)).mono ?_; rintro e w2 ⟨rfl, hw⟩; have hw2 := hw.symm; clear hw; subst hw2))
        go_roundw
        case rel => exact ⟨t + 1, by omega, rfl, by rw [rowAv, HA.out]; exact hown1, hBa⟩
        case measure => (simp [intOf] <;> omega)
    · have hte : t = W.log.length := by omega
      have tl : ¬ (t : Int) < (W.log.length : Int) := by omega
      subst hte
      have hal := asks1_len W.log W.log.length
      generalize hal0 : asks1 W.log W.log.length = al at *
      have HAL : Hid (asks1 W.log W.log.length = al) := hal0
      clear hal0
      go_wp2
      go_loopw [3, 6] (fun v i wr => ∃ u : Nat, u ≤ W.prog.length ∧ i = .int .i64 (u : Int) ∧ rowAv wr w.heap.size v (al ++ (wantsE W u).map fun e => askE e (-1)) ∧ Below w.heap.size w wr) (fun _ i _ => W.prog.length - (intOf i).toNat)
      case atStart => exact ⟨0, Nat.zero_le _, rfl, by simpa [rowAv, wantsE] using hown, hBr⟩
      case round =>
        clear hown hBr fG'
        obtain ⟨u, hu, rfl, hown, hBr⟩ := hrel
        have hWr := h.below hBr
        have fP' := hWr.fP
        by_cases hun : u < W.prog.length
        · have ul : (u : Int) < (W.prog.length : Int) := by omega
          have u0 : (0 : Int) ≤ (u : Int) := by omega
          have hSt := State_any p u W wr hWr I.good hun _ rfl
          by_cases h2 : stateOf W u = 2
          · obtain ⟨n, l, d, A, hst⟩ := stateOf_at W u (by omega) (by omega) I.good hun
            have HTH : Hid (wantsE W (u + 1) = wantsE W u ++ [evAt W u]) := wantsE_yes h2
            have hev : evAt W u = ⟨u, n, d, holdsOf W u⟩ := by simp [evAt, A.prog, A.place, A.txt]
            rw [hev] at HTH
            have hHo := fun w' hw => Holds_any p u W w' (WIn.below hWr hw) I.good hun _ rfl
            rw [h2] at hSt
            obtain ⟨a0, c0, q1, q2⟩ := h.cP' u l A.prog
            have hnl : n < l.length := (List.getElem?_eq_some_iff.1 A.txt).1
            obtain ⟨g0, rfl, q3⟩ := q2 (by intro hh; rw [hh] at hnl; simp at hnl)
            have q4 := q3 n d A.txt
            have fL' := h.fL
            have fPw := h.fP
            have q5 := h.cL' u n A.place
            have n0 : (0 : Int) ≤ (n : Int) := by omega
            have nl : (n : Int) < (l.length : Int) := by omega
            have upl : (u : Int) < (W.place.length : Int) := by rw [I.good.ok.nl]; exact ul
            have hwl := wantsE_len W u
            have hlen : (al ++ (wantsE W u).map fun e => askE e (-1)).length ≤ 1000 := by simp; omega
            obtain ⟨i0, hi0, hz0, hz1, hz2⟩ := info_split infoAsk
            generalize hhs : holdsOf W u = hs at *
            generalize hbl : (al ++ (wantsE W u).map fun e => askE e (-1)) = bl at *
            have HBL : Hid ((al ++ (wantsE W (u + 1)).map fun e => askE e (-1)) = bl ++ [⟨u, n, d, hs, -1⟩]) := by rw [Hid, HTH.out, List.map_append, ← List.append_assoc, hbl]; rfl
            clear hev hhs hbl hst h2 q2 q3 A hL h
            go_upto_region 14 with (first
              | (go_at_call 50; refine hSt.mono ?_; rintro e w2 ⟨rfl, hb2⟩)
              | (go_at_call 79; refine (hHo _ hb2).mono ?_; rintro e w3 ⟨rfl, hb3⟩))
            have hB3 := hb2.trans (hb3.mono hb2.size)
            have hown3 := ownsRow_below hown hB3
            have hBw3 := hBr.trans (hB3.mono hBr.size)
            have hsz3 := hBw3.size
            clear fP' hSt hHo hown hb2 hb3 hWr
            go_region_held3 (fun w' => w'.cell? ⟨p, 0, none⟩ = some (.slice (some ⟨gP, 0, none⟩) W.prog.length cP) ∧ w'.cell? ⟨p, 2, none⟩ = some (.slice (some ⟨gL, 0, none⟩) W.place.length cL) ∧ w'.cell? ⟨gP, u, none⟩ = some (.slice (some ⟨g0, 0, none⟩) l.length c0) ∧ w'.cell? ⟨g0, n, none⟩ = some (.string d) ∧ w'.cell? ⟨gL, u, none⟩ = some (.int .i64 (n : Int)))
              (refine ⟨cell_later ?_ fPw, cell_later ?_ fL', cell_later ?_ q1, cell_later ?_ q4, cell_later ?_ q5⟩ <;> first | exact hBw3 | exact hBw3.drew | exact hBw3.alloc hsz3 _ | exact (hBw3.alloc hsz3 _).drew | exact hBw3.drew.alloc hsz3 _ | exact hB4)
              (first | (refine step_append_lies _ (by rfl) _ _ _ (by rfl) w.heap.size 42 i0 _ 5 56 Try.underlying37 hi0 hz0 hz1 hz2 rfl (by omega) _ bl.length (bl.flatMap akCells) (by rfl) ((hown3.alloc _).drew) ⟨w3.heap.size, 0, none⟩ 1 1 [.int .i64 u, .int .i64 n, .string d, .string hs, .int .i64 (-1)] (by rfl) (by rfl) (World.news_of_block (cs := #[.int .i64 u, .int .i64 n, .string d, .string hs, .int .i64 (-1)]) (t := 42) (fr := (0, 0)) (heap_alloc_new w3 _)) (by simp [Value.oneCell']) (by omega) (by unfold maxLen; omega) (by omega) (by simp; omega) (w3.heap.size + 1) (by simp) ?_; intro gg cap w4 hown4 hgrow hat hlt; have hB4 : Below w.heap.size w w4 := ((hBw3.alloc hsz3 _).drew.grown hgrow (by simp; omega) (fun k hk => (World.ownsRow.lt hown3 k hk).1))))
            all_goals
              go_wp2_with fail
              go_roundw
              case rel =>
                refine ⟨u + 1, by omega, rfl, ?_, hB4⟩
                rw [rowAv, HBL.out]
                simpa [akCells] using hown4
              case measure => (simp [intOf] <;> omega)
          · have HTH : Hid (wantsE W (u + 1) = wantsE W u) := wantsE_no h2
            have hb2 : (stateOf W u == 2) = false := beq_false_of_ne h2
            generalize stateOf W u = st at *
            clear h2 hWr
            go_wp2_with (first | (go_at_call 50; refine hSt.mono ?_; rintro e w2 ⟨rfl, hb2'⟩))
            go_roundw
            case rel =>
              have ho2 := ownsRow_below hown hb2'
              exact ⟨u + 1, by omega, rfl, by rw [rowAv, HTH.out]; exact ho2, hBr.trans (hb2'.mono hBr.size)⟩
            case measure => (simp [intOf] <;> omega)
        · have hue : u = W.prog.length := by omega
          have ul : ¬ (u : Int) < (W.prog.length : Int) := by omega
          subst hue
          have HD : Hid (asksW W = al ++ (wantsE W W.prog.length).map fun e => askE e (-1)) := by rw [Hid, asksW, HAL.out, asks2, List.take_length]
          go_wp2
          go_ret
          exact ⟨_, rfl, hBr, by rw [rowAv, HD.out]; exact hown⟩
end Go.Proofs.Ytfdbnilopfnifaa
