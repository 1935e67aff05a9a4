import Derived.Test.YtfdbnilopfnifaaC2
namespace Go.Proofs.Ytfdbnilopfnifaa
open Go.RowKit

theorem thLoop_len (s : ByteArray) : ∀ (n frm k : Nat) (done : List ByteArray), s.size - k = n → (thLoop s frm k done).length ≤ done.length + 1 + (s.size - k) := by
  intro n
  induction n with
  | zero => intro frm k done h; rw [thLoop, if_neg (by omega)]; simp
  | succ n ih =>
    intro frm k done h
    rw [thLoop, if_pos (by omega)]
    split
    · have := ih (k + 1) (k + 1) (done ++ [s.extract frm k]) (by omega)
      simp at this; omega
    · have := ih frm (k + 1) done (by omega)
      omega
theorem thLoop_size (s : ByteArray) : ∀ (n frm k : Nat) (done : List ByteArray), s.size - k = n → (∀ x ∈ done, x.size ≤ s.size) → ∀ x ∈ thLoop s frm k done, x.size ≤ s.size := by
  intro n
  induction n with
  | zero =>
    intro frm k done h hd x hx
    rw [thLoop, if_neg (by omega)] at hx
    rcases List.mem_append.1 hx with hx | hx
    · exact hd x hx
    · simp at hx; subst hx; rw [ByteArray.size_extract]; omega
  | succ n ih =>
    intro frm k done h hd x hx
    rw [thLoop, if_pos (by omega)] at hx
    split at hx
    · refine ih (k + 1) (k + 1) _ (by omega) ?_ x hx
      intro y hy
      rcases List.mem_append.1 hy with hy | hy
      · exact hd y hy
      · simp at hy; subst hy; rw [ByteArray.size_extract]; omega
    · exact ih frm (k + 1) done (by omega) hd x hx

/-- Strings in a slice, as they are read. -/
def StrsIn (w : World) (B : Nat) (g : Nat) (l : List ByteArray) : Prop := B ≤ g ∧ g < w.heap.size ∧ ∀ j x, l[j]? = some x → w.cell? ⟨g, j, none⟩ = some (.string x)
theorem StrsIn.below {w w' : World} {B g : Nat} {l : List ByteArray} (h : StrsIn w B g l) (hb : Below w.heap.size w w') : StrsIn w' B g l :=
  ⟨h.1, Nat.lt_of_lt_of_le h.2.1 hb.size, fun j x hx => by rw [hb.cell (p := ⟨g, j, none⟩) h.2.1]; exact h.2.2 j x hx⟩
theorem strs_of_own {w : World} {B : Nat} {v : Value} {l : List ByteArray} (h : w.ownsRow B 9 1 v l.length (l.map Value.string)) (hn : v.ownBlock ≠ none) : ∃ g cap, v = .slice (some ⟨g, 0, none⟩) l.length cap ∧ StrsIn w B g l := by
  obtain ⟨g, cap, hv, hB, hlt⟩ := RowD.at.form (r := ⟨9, 1, v, l.length, l.map Value.string⟩) ⟨h, hn⟩
  have hv' : v = .slice (some ⟨g, 0, none⟩) l.length cap := hv
  refine ⟨g, cap, hv', hB, hlt, fun j x hx => ?_⟩
  rw [hv'] at h
  have hj : j < l.length := (List.getElem?_eq_some_iff.1 hx).1
  rw [h.cellAt j (by omega)]
  simp [hx]

theorem threads_read (s : ByteArray) (w : World) (hs : s.size ≤ 160) :
    Calls Try.prog 47 #[.string s] w fun e w' => ∃ g cap, e = .returned (.slice (some ⟨g, 0, none⟩) (thLoop s 0 0 []).length cap) ∧ Below w.heap.size w w' ∧ StrsIn w' w.heap.size g (thLoop s 0 0 []) := by
  refine (threads_any s w hs).mono ?_
  rintro e w1 ⟨v, rfl, hb, ho, hn⟩
  obtain ⟨g, cap, rfl, h⟩ := strs_of_own ho hn
  exact ⟨g, cap, rfl, hb, h⟩
/-- Of 'steps' the length alone. -/
theorem steps_len (s : ByteArray) (w : World) (hs : s.size ≤ 160) :
    Calls Try.prog 48 #[.string s] w fun e w' => ∃ a cap, e = .returned (.slice a (stLoop s 0 []).length cap) ∧ Below w.heap.size w w' ∧ (stLoop s 0 []).length ≤ 160 := by
  refine (steps_any s w hs).mono ?_
  rintro e w1 ⟨v, rfl, hb, ho, hn⟩
  rcases ho.2 with ⟨rfl, h0⟩ | ⟨g, cap, cur, rfl, _⟩
  · exact ⟨none, 0, by rw [h0], hb, hn⟩
  · exact ⟨_, cap, rfl, hb, hn⟩

def ckExtra (l : List ByteArray) (t : Nat) : Int :=
  if h : t < l.length then (if 5 ≤ t ∨ 12 < (stLoop l[t] 0 []).length then (t : Int) else ckExtra l (t + 1)) else -1
termination_by l.length - t
def ckStray (s : ByteArray) (n : Nat) (i : Nat) : Int :=
  if i < s.size then (if (byteI s (i - 1) = 60 ∨ byteI s (i - 1) = 62) ∧ (n : Int) ≤ (byteI s i - 48) % 256 then (i : Int) else ckStray s n (i + 1)) else -1
termination_by s.size - i
def ckEnd (s : ByteArray) (l : List ByteArray) : Int × Int :=
  if ckExtra l 0 ≠ -1 then (3, ckExtra l 0)
  else if ckStray s l.length 1 ≠ -1 then (4, ckStray s l.length 1)
  else (0, 0)
def ckP (s : ByteArray) : Int × Int :=
  if 160 < s.size then (1, 0)
  else if 0 ≤ badLoop s 0 0 then (2, badLoop s 0 0)
  else ckEnd s (thLoop s 0 0 [])

theorem ckExtra_pos (l : List ByteArray) : ∀ (n t : Nat), l.length - t = n → -1 ≤ ckExtra l t := by
  intro n
  induction n with
  | zero => intro t h; rw [ckExtra, dif_neg (by omega)]; omega
  | succ n ih =>
    intro t h
    rw [ckExtra, dif_pos (by omega)]
    split
    · omega
    · exact ih (t + 1) (by omega)

set_option maxHeartbeats 2000000 in
theorem refCheck_any (s : ByteArray) (w : World) :
    Calls Try.prog 15 #[.string s] w fun e w' => e = .returned (.tuple #[.int .i64 (ckP s).1, .int .i64 (ckP s).2]) ∧ Below w.heap.size w w' := by
  by_cases h160 : 160 < s.size
  · have hr : ckP s = (1, 0) := by rw [ckP, if_pos h160]
    rw [hr]; clear hr
    go_enter Try.func15, Try.ntmps15
    go_wp2
    go_ret2
    exact ⟨rfl, Below.refl _ _⟩
  have hs : s.size ≤ 160 := by omega
  have hmx : s.size ≤ maxLen := by unfold maxLen; omega
  have hbad := fun w => bad_any s w hmx
  by_cases hb0 : 0 ≤ badLoop s 0 0
  · have hr : ckP s = (2, badLoop s 0 0) := by rw [ckP, if_neg h160, if_pos hb0]
    rw [hr]; clear hr
    go_enter Try.func15, Try.ntmps15
    go_wp2_with (go_at_call 46; refine (hbad _).mono ?_; rintro e w2 ⟨rfl, rfl⟩)
    go_ret2
    exact ⟨rfl, Below.refl _ _⟩
  have hth := fun w => threads_read s w hs
  have hlen := thLoop_len s _ 0 0 [] rfl
  have hsz := thLoop_size s _ 0 0 [] rfl (by simp)
  have hck : ckP s = ckEnd s (thLoop s 0 0 []) := by
    rw [ckP, if_neg h160, if_neg hb0]
  rw [hck]; clear hck
  generalize thLoop s 0 0 [] = l at *
  simp only [List.length_nil] at hlen
  go_enter Try.func15, Try.ntmps15
  go_wp2_with (first | (go_at_call 46; refine (hbad _).mono ?_; rintro e w2 ⟨rfl, hw⟩; have hw2 := hw.symm; clear hw; subst hw2) | (go_at_call 47; refine (hth _).mono ?_; rintro e w1 ⟨g, cap, rfl, hB, hst⟩))
  clear hbad hth
  go_loopw [6] (fun i wr => ∃ t : Nat, t ≤ l.length ∧ i = .int .i64 t ∧ Hid (ckExtra l 0 = ckExtra l t) ∧ Below w.heap.size w wr ∧ StrsIn wr w.heap.size g l) (fun i _ => l.length - (intOf i).toNat)
  case atStart => exact ⟨0, Nat.zero_le _, rfl, rfl, hB, hst⟩
  case round =>
    obtain ⟨t, ht, rfl, hh, hBr, hsr⟩ := hrel
    clear hB hst
    by_cases hlt : t < l.length
    · have hh2 : Hid (ckExtra l 0 = if 5 ≤ t ∨ 12 < (stLoop l[t] 0 []).length then (t : Int) else ckExtra l (t + 1)) := by rw [Hid, hh.out, ckExtra, dif_pos hlt]
      clear hh
      have hc := hsr.2.2 t l[t] (by simp [hlt])
      have hstp := fun w => steps_len l[t] w (by have := hsz l[t] (by simp); omega)
      generalize stLoop l[t] 0 [] = r at hh2 hstp
      generalize l[t] = x at hc hstp
      by_cases hex : 5 ≤ t ∨ 12 < r.length
      · rcases hex with hex | hex
        · have h2 : ¬ (l.length ≤ t) := by omega
          go_wp2_with (go_at_call 48; refine (hstp _).mono ?_; rintro e w2 ⟨a, cap2, rfl, hB2, hr160⟩)
          go_ret2
          refine ⟨?_, hBr.trans (hB2.mono hBr.size)⟩
          have hx : ckExtra l 0 = (t : Int) := by rw [hh2.out, if_pos (.inl hex)]
          rw [ckEnd, hx, if_pos (by omega)]
          rfl
        · by_cases h5 : 5 ≤ t
          all_goals
            go_wp2_with (go_at_call 48; refine (hstp _).mono ?_; rintro e w2 ⟨a, cap2, rfl, hB2, hr160⟩)
            go_ret2
            refine ⟨?_, hBr.trans (hB2.mono hBr.size)⟩
            have hx : ckExtra l 0 = (t : Int) := by rw [hh2.out, if_pos (.inr hex)]
            rw [ckEnd, hx, if_pos (by omega)]
            rfl
      · have h5 : ¬ 5 ≤ t := by omega
        have h12 : ¬ 12 < r.length := by omega
        go_wp2_with (go_at_call 48; refine (hstp _).mono ?_; rintro e w2 ⟨a, cap2, rfl, hB2, hr160⟩)
        go_roundw
        case rel => exact ⟨t + 1, by omega, by go_num, by rw [Hid, hh2.out, if_neg (by omega)], hBr.trans (hB2.mono hBr.size), hsr.below hB2⟩
        case measure => simp [intOf]; omega
    · have hx : ckExtra l 0 = -1 := by rw [hh.out, ckExtra, dif_neg hlt]
      have hce : ckEnd s l = if ckStray s l.length 1 ≠ -1 then (4, ckStray s l.length 1) else (0, 0) := by rw [ckEnd, if_neg (by omega)]
      have HCE : Hid (ckEnd s l = if ckStray s l.length 1 ≠ -1 then (4, ckStray s l.length 1) else (0, 0)) := hce
      clear hh hce hx
      go_wp2
      go_loop [8] (fun i => ∃ k : Nat, 1 ≤ k ∧ k ≤ s.size + 1 ∧ i = .int .i64 k ∧ Hid (ckStray s l.length 1 = ckStray s l.length k)) (fun i => s.size + 1 - (intOf i).toNat)
      case atStart => exact ⟨1, by omega, by omega, rfl, rfl⟩
      case round =>
        obtain ⟨k, hk1, hk, rfl, hh⟩ := hrel
        by_cases hks : k < s.size
        · have hh2 : Hid (ckStray s l.length 1 = if (byteI s (k - 1) = 60 ∨ byteI s (k - 1) = 62) ∧ (l.length : Int) ≤ (byteI s k - 48) % 256 then (k : Int) else ckStray s l.length (k + 1)) := by rw [Hid, hh.out, ckStray, if_pos hks]
          clear hh
          obtain ⟨j, rfl⟩ : ∃ j, k = j + 1 := ⟨k - 1, by omega⟩
          have hj : j < s.size := by omega
          have hbj := byteI_in hj
          have hbk := byteI_in hks
          have hlo := byteI_lo s (j + 1)
          have hhi := byteI_hi s (j + 1)
          simp only [Nat.add_sub_cancel] at hh2
          go_wp2
          · have hx : ckStray s l.length 1 = ((j + 1 : Nat) : Int) := by rw [hh2.out, if_pos (by omega)]
            have hy : ckEnd s l = (4, ((j + 1 : Nat) : Int)) := by rw [HCE.out, hx, if_pos (by omega)]
            rw [hy]
            go_ret2
            exact ⟨rfl, hBr⟩
          · go_round
            case rel => exact ⟨j + 1 + 1, by omega, by omega, by go_num, by rw [Hid, hh2.out, if_neg (by omega)]⟩
            case measure => simp [intOf]; omega
          · have hx : ckStray s l.length 1 = ((j + 1 : Nat) : Int) := by rw [hh2.out, if_pos (by omega)]
            have hy : ckEnd s l = (4, ((j + 1 : Nat) : Int)) := by rw [HCE.out, hx, if_pos (by omega)]
            rw [hy]
            go_ret2
            exact ⟨rfl, hBr⟩
          · go_round
            case rel => exact ⟨j + 1 + 1, by omega, by omega, by go_num, by rw [Hid, hh2.out, if_neg (by omega)]⟩
            case measure => simp [intOf]; omega
          · go_round
            case rel => exact ⟨j + 1 + 1, by omega, by omega, by go_num, by rw [Hid, hh2.out, if_neg (by omega)]⟩
            case measure => simp [intOf]; omega
        · have hx : ckStray s l.length 1 = -1 := by rw [hh.out, ckStray, if_neg hks]
          have hy : ckEnd s l = (0, 0) := by rw [HCE.out, hx, if_neg (by omega)]
          have HY : Hid (ckEnd s l = (0, 0)) := hy
          clear hh hx hy HCE
          go_wp2
          go_ret2
          exact ⟨by rw [HY.out]; rfl, hBr⟩
end Go.Proofs.Ytfdbnilopfnifaa
