import Derived.Test.YtdfndcbakcmgiaaDoorP1
import Derived.Test.YtdfndcbakcmgiaaDoorD9
namespace Go.Proofs.YtdfndcbakcmgiaaDoor
open Go.RowKit

theorem ckExtra_neg (l : List ByteArray) : ∀ (n t : Nat), l.length - t = n → ckExtra l t = -1 → ∀ j (h : j < l.length), t ≤ j → j < 5 ∧ (stLoop l[j] 0 []).length ≤ 12 := by
  intro n
  induction n with
  | zero => intro t hn _ j h hj; omega
  | succ n ih =>
    intro t hn hk j h hj
    rw [ckExtra, dif_pos (by omega)] at hk
    split at hk
    · omega
    · rename_i hc
      by_cases e : j = t
      · subst e; omega
      · exact ih (t + 1) (by omega) hk j h (by omega)

theorem ckStray_neg (s : ByteArray) (m : Nat) : ∀ (n i : Nat), s.size - i = n → ckStray s m i = -1 → ∀ j, i ≤ j → j < s.size → (byteI s (j - 1) = 60 ∨ byteI s (j - 1) = 62) → (byteI s j - 48) % 256 < m := by
  intro n
  induction n with
  | zero => intro i hn _ j h1 h2; omega
  | succ n ih =>
    intro i hn hk j h1 h2 hc
    rw [ckStray, if_pos (by omega)] at hk
    split at hk
    · omega
    · rename_i hc'
      by_cases e : j = i
      · subst e
        have := fun h => hc' ⟨hc, h⟩
        omega
      · exact ih (i + 1) (by omega) hk j (by omega) h2 hc

/-- An instruction of the text. -/
def DP (s d : ByteArray) : Prop := ∃ k, k < s.size ∧ byteI s k ≠ 59 ∧ (readStep s k).2.2 = true ∧ d = s.extract k (readStep s k).2.1

theorem dp_main (s : ByteArray) : ∀ (n k frm : Nat) (dn : List ByteArray) (pre : List ByteArray) (L : List (List Stp)), s.size - k = n → frm ≤ k → k ≤ s.size →
    (∀ e, k ≤ e → e ≤ s.size → stLoop (s.extract frm e) 0 [] = stLoop (s.extract frm e) (k - frm) pre) →
    rtLoop s k (parse dn) (pre.map stpOf) = .inl L → (∀ th ∈ dn, ∀ d ∈ stLoop th 0 [], DP s d) → (∀ d ∈ pre, DP s d) → ∀ th ∈ thLoop s frm k dn, ∀ d ∈ stLoop th 0 [], DP s d := by
  intro n
  induction n using Nat.strongRecOn with
  | ind n ih =>
    intro k frm dn pre L hn hf hk hpre hL hdn hpr
    by_cases hlt : k < s.size
    · by_cases h59 : byteI s k = 59
      · have hsp := hpre k (Nat.le_refl _) hk
        rw [stLoop_end _ (k - frm) pre (by rw [ByteArray.size_extract]; omega)] at hsp
        have hr : rtLoop s k (parse dn) (pre.map stpOf) = rtLoop s (k + 1) (parse (dn ++ [s.extract frm k])) (([] : List ByteArray).map stpOf) := by
          rw [rtLoop, if_pos hlt, if_pos h59]
          simp [parse, hsp]
        rw [hr] at hL
        rw [thLoop, if_pos hlt, if_pos h59]
        refine ih (s.size - (k + 1)) (by omega) (k + 1) (k + 1) _ [] L rfl (by omega) (by omega) (fun e _ _ => by simp) hL ?_ (by simp)
        intro th hth
        rcases List.mem_append.1 hth with hth | hth
        · exact hdn th hth
        · simp at hth; subst hth; rw [hsp]; exact hpr
      · cases hok : (readStep s k).2.2 with
        | false =>
          rw [rtLoop, if_pos hlt, if_neg h59, dif_neg (by simp [hok])] at hL
          cases hL
        | true =>
          have G := readStep_good s k hlt h59 hok
          have hr : rtLoop s k (parse dn) (pre.map stpOf) = rtLoop s (readStep s k).2.1 (parse dn) ((pre ++ [s.extract k (readStep s k).2.1]).map stpOf) := by
            rw [rtLoop, if_pos hlt, if_neg h59, dif_pos hok]
            simp [← G.stp]
          rw [hr] at hL
          have hd : DP s (s.extract k (readStep s k).2.1) := ⟨k, hlt, h59, hok, rfl⟩
          generalize (readStep s k).2.1 = nx at G hL hd
          have hw := wid_range (byteI s k)
          have hnx := G.nxt
          have hle := G.le
          rw [thLoop_skip s frm dn (nx - k) k nx (by omega) hle G.nosemi]
          refine ih (s.size - nx) (by omega) nx frm dn _ L rfl (by omega) hle ?_ hL hdn ?_
          · intro e he1 he2
            rw [hpre e (by omega) he2, stLoop, dif_pos (by rw [ByteArray.size_extract]; omega)]
            have hend : stEnd (s.extract frm e) (k - frm) = nx - frm := by
              have hby : byteI (s.extract frm e) (k - frm) = byteI s k := by
                have e0 : frm + (k - frm) = k := by omega
                rw [byteI_extract s frm e _ he2, if_pos (by omega), e0]
              rw [stEnd, hby, ByteArray.size_extract, if_neg (by omega)]
              omega
            rw [hend, extract_extract s frm e _ _ (by omega)]
            have e1 : frm + (k - frm) = k := by omega
            have e2 : frm + (nx - frm) = nx := by omega
            rw [e1, e2]
          · intro d hdd
            rcases List.mem_append.1 hdd with h | h
            · exact hpr d h
            · simp at h; subst h; exact hd
    · have hsp := hpre s.size (by omega) (Nat.le_refl _)
      rw [stLoop_end _ (k - frm) pre (by rw [ByteArray.size_extract]; omega)] at hsp
      rw [thLoop, if_neg hlt]
      intro th hth
      rcases List.mem_append.1 hth with hth | hth
      · exact hdn th hth
      · simp at hth; subst hth; rw [hsp]; exact hpr

/-- What the bytes of a step that could be read are. -/
theorem readStep_bytes (s : ByteArray) (k : Nat) (h : (readStep s k).2.2 = true) :
    byteI s k = 46 ∨ (97 ≤ byteI s k ∧ byteI s k ≤ 102) ∨ (65 ≤ byteI s k ∧ byteI s k ≤ 70) ∨ ((byteI s k = 33 ∨ byteI s k = 126) ∧ 117 ≤ byteI s (k + 1) ∧ byteI s (k + 1) ≤ 122) ∨
    (byteI s k = 63 ∧ 117 ≤ byteI s (k + 1) ∧ byteI s (k + 1) ≤ 122 ∧ 49 ≤ byteI s (k + 2) ∧ byteI s (k + 2) ≤ 57) ∨ ((byteI s k = 60 ∨ byteI s k = 62) ∧ 48 ≤ byteI s (k + 1) ∧ byteI s (k + 1) ≤ 57) := by
  unfold readStep at h
  split at h
  · exact .inl (by assumption)
  split at h
  · exact .inr (.inl (by assumption))
  split at h
  · exact .inr (.inr (.inl (by assumption)))
  split at h
  · rename_i c; have := readNamed_good h; exact .inr (.inr (.inr (.inl ⟨.inl c, this.2⟩)))
  split at h
  · rename_i c; have := readNamed_good h; exact .inr (.inr (.inr (.inl ⟨.inr c, this.2⟩)))
  split at h
  · rename_i c
    unfold readSkip at h
    split at h
    · simp at h
    split at h
    · simp at h
    · have e : k + 1 + 1 = k + 2 := by omega
      rename_i d1 d2
      rw [e] at d2
      exact .inr (.inr (.inr (.inr (.inl ⟨c, by omega, by omega, by omega, by omega⟩))))
  split at h
  · rename_i c; have := readNamed_good h; exact .inr (.inr (.inr (.inr (.inr ⟨.inr c, this.2⟩))))
  split at h
  · rename_i c; have := readNamed_good h; exact .inr (.inr (.inr (.inr (.inr ⟨.inl c, this.2⟩))))
  · simp at h

theorem dp_ok (s d : ByteArray) (n : Nat) (h : DP s d) (hst : ∀ j, 1 ≤ j → j < s.size → (byteI s (j - 1) = 60 ∨ byteI s (j - 1) = 62) → (byteI s j - 48) % 256 < n) : DOk n d := by
  obtain ⟨k, hk, h59, hok, rfl⟩ := h
  have G := readStep_good s k hk h59 hok
  have hb := readStep_bytes s k hok
  have hnx := G.nxt
  have hle := G.le
  generalize (readStep s k).2.1 = nx at *
  have hw := wid_range (byteI s k)
  have e0 : byteI (s.extract k nx) 0 = byteI s k := stpOf_extract0 s k nx hle (by omega)
  have e1 : 2 ≤ wid (byteI s k) → byteI (s.extract k nx) 1 = byteI s (k + 1) := fun h => stpOf_extract s k nx hle 1 (by omega)
  have e2 : 3 ≤ wid (byteI s k) → byteI (s.extract k nx) 2 = byteI s (k + 2) := fun h => stpOf_extract s k nx hle 2 (by omega)
  refine ⟨?_, ?_⟩
  · rw [e0, ByteArray.size_extract]; omega
  · rw [e0]
    rcases hb with h | h | h | ⟨h, h1, h2⟩ | ⟨h, h1, h2, h3, h4⟩ | ⟨h, h1, h2⟩
    · exact .inl h
    · exact .inr (.inl h)
    · exact .inr (.inr (.inl h))
    · have hw2 : wid (byteI s k) = 2 := wid_two (by omega)
      rw [e1 (by omega)]
      exact .inr (.inr (.inr (.inl ⟨h, h1, h2⟩)))
    · have hw3 : wid (byteI s k) = 3 := by rw [h]; rfl
      rw [e1 (by omega), e2 (by omega)]
      exact .inr (.inr (.inr (.inr (.inl ⟨h, h1, h2, h3, h4⟩))))
    · have hw2 : wid (byteI s k) = 2 := wid_two (by omega)
      rw [e1 (by omega)]
      have hs1 : k + 1 < s.size := by omega
      have := hst (k + 1) (by omega) hs1 (by rw [Nat.add_sub_cancel]; exact h)
      exact .inr (.inr (.inr (.inr (.inr ⟨h, h1, by omega⟩))))

theorem ckP_zero (s : ByteArray) (h : (ckP s).1 = 0) : s.size ≤ 160 ∧ badLoop s 0 0 = -1 ∧ ckExtra (thLoop s 0 0 []) 0 = -1 ∧ ckStray s (thLoop s 0 0 []).length 1 = -1 := by
  unfold ckP at h
  split at h
  · simp at h
  rename_i h1
  split at h
  · simp at h
  rename_i h2
  unfold ckEnd at h
  split at h
  · simp at h
  rename_i h3
  split at h
  · simp at h
  rename_i h4
  refine ⟨by omega, ?_, by omega, by omega⟩
  have hm := rt_main s _ 0 0 [] [] rfl (Nat.le_refl _) (Nat.zero_le _) (fun e _ _ => by simp)
  simp only [parse, List.map_nil] at hm
  cases hr : rtLoop s 0 [] [] with
  | inr p => rw [hr] at hm; simp only at hm; omega
  | inl L => rw [hr] at hm; exact hm.1

theorem thLoop_pos (s : ByteArray) : ∀ (n frm k : Nat) (dn : List ByteArray), s.size - k = n → 0 < (thLoop s frm k dn).length := by
  intro n
  induction n with
  | zero => intro frm k dn h; rw [thLoop, if_neg (by omega)]; simp
  | succ n ih =>
    intro frm k dn h
    rw [thLoop, if_pos (by omega)]
    split
    · exact ih _ _ _ (by omega)
    · exact ih _ _ _ (by omega)

/-- A text that Check lets by begins well. -/
theorem begin_inv (s : ByteArray) (h : (ckP s).1 = 0) : (beginW (thLoop s 0 0 [])).Inv := by
  obtain ⟨h160, hbad, hex, hst⟩ := ckP_zero s h
  have hext := ckExtra_neg (thLoop s 0 0 []) _ 0 rfl hex
  have hstr := ckStray_neg s _ _ 1 rfl hst
  have hpos := thLoop_pos s _ 0 0 [] rfl
  have hm := rt_main s _ 0 0 [] [] rfl (Nat.le_refl _) (Nat.zero_le _) (fun e _ _ => by simp)
  have hdp : ∀ th ∈ thLoop s 0 0 [], ∀ d ∈ stLoop th 0 [], DP s d := by
    simp only [parse, List.map_nil] at hm
    cases hr : rtLoop s 0 [] [] with
    | inr p => rw [hr] at hm; simp only at hm; omega
    | inl L => exact dp_main s _ 0 0 [] [] L rfl (Nat.le_refl _) (Nat.zero_le _) (fun e _ _ => by simp) (by simpa [parse] using hr) (by simp) (by simp)
  clear hm
  generalize thLoop s 0 0 [] = ths at *
  have hprog : (beginW ths).prog = ths.map fun th => stLoop th 0 [] := by simp [beginW, madeW]
  have hlen : (beginW ths).prog.length = ths.length := by rw [hprog]; simp
  refine ⟨⟨⟨by omega, ?_, ?_, by simp [beginW], by simp [beginW]⟩, ?_, ?_, ?_, ?_, ?_⟩, by simp [beginW, madeW]⟩
  · rw [hlen]; simp [beginW, madeW]
  · rw [hlen]; simp [beginW, madeW]
  · rw [hlen]
    have := hext (ths.length - 1) (by omega) (Nat.zero_le _)
    omega
  · intro t l j d hl hd
    rw [hlen]
    rw [hprog, List.getElem?_map] at hl
    cases hth : ths[t]? with
    | none => rw [hth] at hl; simp at hl
    | some th =>
      rw [hth] at hl
      simp at hl
      subst hl
      exact dp_ok s d _ (hdp th (List.mem_of_getElem? hth) d (List.mem_of_getElem? hd)) hstr
  · intro t l n _ hn
    have : (beginW ths).place = List.replicate ths.length 0 := by simp [beginW, madeW]
    rw [this, List.getElem?_replicate] at hn
    split at hn
    · simp at hn; omega
    · simp at hn
  · intro t l hl
    rw [hprog, List.getElem?_map] at hl
    cases hth : ths[t]? with
    | none => rw [hth] at hl; simp at hl
    | some th =>
      rw [hth] at hl
      simp at hl
      subst hl
      obtain ⟨ht, e⟩ := List.getElem?_eq_some_iff.1 hth
      have := (hext t ht (Nat.zero_le _)).2
      rw [e] at this
      exact this
  · intro k u hu
    have : (beginW ths).has = List.replicate 6 none := rfl
    rw [this, List.getElem?_replicate] at hu
    split at hu
    · simp at hu
    · simp at hu
end Go.Proofs.YtdfndcbakcmgiaaDoor
