import Derived.Test.YtfdbnilopfnifaaR2
import Derived.Test.YtfdbnilopfnifaaT3
namespace Go.Proofs.Ytfdbnilopfnifaa
open Go.RowKit

/-- What Before answers of a world. -/
def befW (W : Wd) (i j : Int) : Bool × Int :=
  if i < 0 ∨ j < 0 ∨ (W.log.length : Int) ≤ i ∨ (W.log.length : Int) ≤ j then (false, 6) else ((aheadR W.log j.toNat)[i.toNat]?.getD false, 0)
def befV (s sch : ByteArray) (i j : Int) : Bool × Int :=
  if (ckP s).1 ≠ 0 then (false, (ckP s).1)
  else match toLoop sch (beginW (thLoop s 0 0 [])) 0 with
    | some W => befW W i j
    | none => (false, 5)

theorem markL_len (log : List Ev) (j i : Nat) : ∀ (d k : Nat) (m : List Bool), j + 1 - k = d → (markL log j i k m).length = m.length := by
  intro d
  induction d with
  | zero => intro k m hd; rw [markL, if_neg (by omega)]
  | succ d ih =>
    intro k m hd
    rw [markL, if_pos (by omega), ih (k + 1) _ (by omega)]
    split
    · simp
    · rfl
theorem marksL_len (log : List Ev) (j : Nat) : ∀ (c : Nat) (m : List Bool), (marksL log j c m).length = m.length
  | 0, m => rfl
  | c + 1, m => by rw [marksL, marksL_len log j c, markL_len log j c _ _ _ rfl]
theorem aheadR_len (log : List Ev) (j : Nat) : (aheadR log j).length = log.length := by rw [aheadR, marksL_len]; simp

theorem refBefore_bad (s sch : ByteArray) (i j a : Int) (ha : a ≠ 0) (w : World) (hwd : ∀ w, Calls Try.prog 49 #[.string s, .string sch] w fun e w' => e = .returned (.tuple #[.pointer none, .int .i64 a]) ∧ Below w.heap.size w w') :
    Calls Try.prog 26 #[.string s, .string sch, .int .i64 i, .int .i64 j] w fun e w' => e = .returned (.tuple #[.bool false, .int .i64 a]) ∧ Below w.heap.size w w' := by
  have hb : (a != 0) = true := by simpa using ha
  go_enter Try.func26, Try.ntmps26
  go_wp2_with (first | (go_at_call 49; refine (hwd _).mono ?_; rintro e w1 ⟨rfl, hB1⟩))
  go_ret2
  exact ⟨rfl, hB1⟩

set_option maxRecDepth 100000 in
set_option maxHeartbeats 2000000 in
theorem refBefore_ok (s sch : ByteArray) (i j : Int) (hsch : sch.size ≤ maxLen) (w : World) (h0 : (ckP s).1 = 0) (W : Wd) (hW : toLoop sch (beginW (thLoop s 0 0 [])) 0 = some W) :
    Calls Try.prog 26 #[.string s, .string sch, .int .i64 i, .int .i64 j] w fun e w' => e = .returned (.tuple #[.bool (befW W i j).1, .int .i64 (befW W i j).2]) ∧ Below w.heap.size w w' := by
  have I0 := begin_inv s h0
  have hwd := fun w => world_ok s sch w h0 (ckP_zero s h0).1 hsch I0 W hW
  have hLO := toLoop_logOk sch _ 0 _ W rfl I0 (begin_logOk _) hW
  clear h0 hW I0
  have hbadc : ∀ (hb : i < 0 ∨ j < 0 ∨ (W.log.length : Int) ≤ i ∨ (W.log.length : Int) ≤ j), befW W i j = (false, 6) := fun hb => by rw [befW, if_pos hb]
  have hgoodc : ∀ (hb : ¬ (i < 0 ∨ j < 0 ∨ (W.log.length : Int) ≤ i ∨ (W.log.length : Int) ≤ j)), befW W i j = ((aheadR W.log j.toNat)[i.toNat]?.getD false, 0) := fun hb => by rw [befW, if_neg hb]
  generalize befW W i j = r at *
  by_cases h1 : i < 0
  · have HR : Hid (r = (false, 6)) := hbadc (.inl h1)
    clear hbadc hgoodc
    go_enter Try.func26, Try.ntmps26
    go_upto_region 4 with (first | (go_at_call 49; refine (hwd _).mono ?_; rintro e w1 ⟨p, rfl, hB1, hR1, I1⟩; clear hwd))
    obtain ⟨gP, cP, gB, cB, gL, cL, gH, cH, gS, cS, aG, cG, hWi⟩ := hR1.wIn I1.good.ok
    have fG := hWi.fG
    clear hWi
    go_wp2
    go_ret2
    exact ⟨by rw [HR.out]; rfl, hB1⟩
  by_cases h2 : j < 0
  · have HR : Hid (r = (false, 6)) := hbadc (.inr (.inl h2))
    clear hbadc hgoodc
    go_enter Try.func26, Try.ntmps26
    go_upto_region 4 with (first | (go_at_call 49; refine (hwd _).mono ?_; rintro e w1 ⟨p, rfl, hB1, hR1, I1⟩; clear hwd))
    obtain ⟨gP, cP, gB, cB, gL, cL, gH, cH, gS, cS, aG, cG, hWi⟩ := hR1.wIn I1.good.ok
    have fG := hWi.fG
    clear hWi
    go_wp2
    go_ret2
    exact ⟨by rw [HR.out]; rfl, hB1⟩
  by_cases h3 : (W.log.length : Int) ≤ i
  · have HR : Hid (r = (false, 6)) := hbadc (.inr (.inr (.inl h3)))
    clear hbadc hgoodc
    go_enter Try.func26, Try.ntmps26
    go_upto_region 4 with (first | (go_at_call 49; refine (hwd _).mono ?_; rintro e w1 ⟨p, rfl, hB1, hR1, I1⟩; clear hwd))
    obtain ⟨gP, cP, gB, cB, gL, cL, gH, cH, gS, cS, aG, cG, hWi⟩ := hR1.wIn I1.good.ok
    have fG := hWi.fG
    clear hWi
    go_wp2
    go_ret2
    exact ⟨by rw [HR.out]; rfl, hB1⟩
  by_cases h4 : (W.log.length : Int) ≤ j
  · have HR : Hid (r = (false, 6)) := hbadc (.inr (.inr (.inr h4)))
    clear hbadc hgoodc
    go_enter Try.func26, Try.ntmps26
    go_upto_region 4 with (first | (go_at_call 49; refine (hwd _).mono ?_; rintro e w1 ⟨p, rfl, hB1, hR1, I1⟩; clear hwd))
    obtain ⟨gP, cP, gB, cB, gL, cL, gH, cH, gS, cS, aG, cG, hWi⟩ := hR1.wIn I1.good.ok
    have fG := hWi.fG
    clear hWi
    go_wp2
    go_ret2
    exact ⟨by rw [HR.out]; rfl, hB1⟩
  · obtain ⟨a, rfl⟩ : ∃ a : Nat, i = a := ⟨i.toNat, by omega⟩
    obtain ⟨b, rfl⟩ : ∃ b : Nat, j = b := ⟨j.toNat, by omega⟩
    have HR : Hid (r = ((aheadR W.log b)[a]?.getD false, 0)) := by
      have h := hgoodc (by omega)
      rw [Int.toNat_natCast, Int.toNat_natCast] at h
      exact h
    clear hbadc hgoodc
    obtain ⟨x, hx⟩ := get_some (aheadR W.log b) a (by rw [aheadR_len]; omega)
    have HR2 : Hid (r = (x, 0)) := by rw [Hid, HR.out, hx]; rfl
    have HX : Hid ((aheadR W.log b)[a]? = some x) := hx
    clear HR hx
    have a0 : (0 : Int) ≤ (a : Int) := by omega
    have al : (a : Int) < (W.log.length : Int) := by omega
    have haln : a < W.log.length := by omega
    go_enter Try.func26, Try.ntmps26
    go_upto_region 4 with (first | (go_at_call 49; refine (hwd _).mono ?_; rintro e w1 ⟨p, rfl, hB1, hR1, I1⟩; clear hwd))
    obtain ⟨gP, cP, gB, cB, gL, cL, gH, cH, gS, cS, aG, cG, hWi⟩ := hR1.wIn I1.good.ok
    have fG := hWi.fG
    have hl60 := I1.small
    have hAh := ahead_any p b W w1 hWi I1.good.n5 hLO (by omega) hl60 _ rfl
    clear hWi
    go_wp2_with (first | (go_at_call 62; refine hAh.mono ?_; rintro e w2 ⟨g, rfl, hb2, ho2⟩; have cx : w2.cell? ⟨g, a, none⟩ = some (.bool x) := (by rw [ho2.cellAt a (by omega)]; simp [HX.out])))
    go_ret2
    exact ⟨by rw [HR2.out]; rfl, hB1.trans (hb2.mono hB1.size)⟩

theorem refBefore_any (s sch : ByteArray) (i j : Int) (hsch : sch.size ≤ maxLen) (w : World) :
    Calls Try.prog 26 #[.string s, .string sch, .int .i64 i, .int .i64 j] w fun e w' => e = .returned (.tuple #[.bool (befV s sch i j).1, .int .i64 (befV s sch i j).2]) ∧ Below w.heap.size w w' := by
  unfold befV
  by_cases h : (ckP s).1 ≠ 0
  · rw [if_pos h]
    exact refBefore_bad s sch i j _ h w (fun w => world_err s sch w h)
  · rw [if_neg h]
    have h0 : (ckP s).1 = 0 := by omega
    cases hW : toLoop sch (beginW (thLoop s 0 0 [])) 0 with
    | none => exact refBefore_bad s sch i j 5 (by decide) w (fun w => world_none s sch w h0 (ckP_zero s h0).1 hsch (begin_inv s h0) hW)
    | some W => exact refBefore_ok s sch i j hsch w h0 W hW
end Go.Proofs.Ytfdbnilopfnifaa
namespace Go.Proofs.Ytfdbnilopfnifaa
open Go.RowKit

/-! What must come ahead, as chains of events that lead to one another. -/
def leadB (log : List Ev) (i k : Nat) : Bool := (log[i]?.bind fun a => log[k]?.map fun b => strE a b).getD false
theorem leadB_at {log : List Ev} {i k : Nat} {a b : Ev} (ha : log[i]? = some a) (hb : log[k]? = some b) : leadB log i k = strE a b := by rw [leadB, ha, hb]; rfl
theorem leadB_lt {log : List Ev} {i k : Nat} (h : leadB log i k = true) : i < log.length ∧ k < log.length := by
  unfold leadB at h
  constructor
  · cases ha : log[i]? with
    | none => rw [ha] at h; simp at h
    | some a => exact (List.getElem?_eq_some_iff.1 ha).1
  · cases hb : log[k]? with
    | none => rw [hb] at h; cases ha : log[i]? <;> rw [ha] at h <;> simp at h
    | some b => exact (List.getElem?_eq_some_iff.1 hb).1

theorem markL_other (log : List Ev) (j i : Nat) : ∀ (d k : Nat) (m : List Bool), j + 1 - k = d → ∀ x, x ≠ i → (markL log j i k m)[x]? = m[x]? := by
  intro d
  induction d with
  | zero => intro k m hd x hx; rw [markL, if_neg (by omega)]
  | succ d ih =>
    intro k m hd x hx
    rw [markL, if_pos (by omega), ih (k + 1) _ (by omega) x hx]
    split
    · rw [List.getElem?_set, if_neg (fun h => hx h.symm)]
    · rfl
theorem markL_own (log : List Ev) (j i : Nat) : ∀ (d k : Nat) (m : List Bool), j + 1 - k = d → i < k → i < m.length →
    ((markL log j i k m)[i]? = some true ↔ (m[i]? = some true ∨ ∃ x, k ≤ x ∧ x ≤ j ∧ (x = j ∨ m[x]? = some true) ∧ leadB log i x = true)) := by
  intro d
  induction d with
  | zero =>
    intro k m hd hik hil
    rw [markL, if_neg (by omega)]
    constructor
    · exact .inl
    · rintro (h | ⟨x, h1, h2, _⟩)
      · exact h
      · omega
  | succ d ih =>
    intro k m hd hik hil
    rw [markL, if_pos (by omega)]
    have hl : (log[i]?.bind fun a => log[k]?.map fun b => strE a b).getD false = leadB log i k := rfl
    rw [hl]
    have hmk : (m[k]?.getD false = true) ↔ m[k]? = some true := by
      cases m[k]? <;> simp
    simp only [hmk]
    by_cases hc : (k = j ∨ m[k]? = some true) ∧ leadB log i k = true
    · rw [if_pos hc, ih (k + 1) _ (by omega) (by omega) (by simpa using hil)]
      constructor
      · exact fun _ => .inr ⟨k, Nat.le_refl _, by omega, hc.1, hc.2⟩
      · exact fun _ => .inl (by rw [List.getElem?_set, if_pos rfl, if_pos hil])
    · rw [if_neg hc, ih (k + 1) _ (by omega) (by omega) hil]
      constructor
      · rintro (h | ⟨x, h1, h2, h3, h4⟩)
        · exact .inl h
        · exact .inr ⟨x, by omega, h2, h3, h4⟩
      · rintro (h | ⟨x, h1, h2, h3, h4⟩)
        · exact .inl h
        · by_cases hx : x = k
          · subst hx; exact absurd ⟨h3, h4⟩ hc
          · exact .inr ⟨x, by omega, h2, h3, h4⟩

theorem marksL_iff (log : List Ev) (j : Nat) (hj : j < log.length) : ∀ (c : Nat) (m : List Bool), c ≤ j → m.length = log.length → (∀ x, c ≤ x → (m[x]? = some true ↔ Ch (leadB log) j x)) → (∀ x, x < c → m[x]? = some false) →
    ∀ x, (marksL log j c m)[x]? = some true ↔ Ch (leadB log) j x
  | 0, m, _, _, h1, _, x => by rw [marksL]; exact h1 x (Nat.zero_le _)
  | c + 1, m, hc, hm, h1, h2, x => by
    rw [marksL]
    refine marksL_iff log j hj c _ (by omega) (by rw [markL_len log j c _ _ _ rfl]; exact hm) ?_ ?_ x
    · intro y hy
      by_cases hyc : y = c
      · subst hyc
        rw [markL_own log j y _ _ m rfl (by omega) (by omega), h2 y (by omega)]
        constructor
        · rintro (h | ⟨x, h3, h4, h5, h6⟩)
          · simp at h
          · rcases h5 with rfl | h5
            · exact .one (by omega) h6
            · exact .more (by omega) h6 ((h1 x (by omega)).1 h5)
        · intro h
          refine .inr ?_
          cases h with
          | one h3 h4 => exact ⟨j, by omega, Nat.le_refl _, .inl rfl, h4⟩
          | @more _ k h3 h4 h5 => exact ⟨k, by omega, by have := h5.lt; omega, .inr ((h1 k (by omega)).2 h5), h4⟩
      · rw [markL_other log j c _ _ m rfl y hyc]
        exact h1 y (by omega)
    · intro y hy
      rw [markL_other log j c _ _ m rfl y (by omega)]
      exact h2 y (by omega)
theorem aheadR_iff (log : List Ev) (j : Nat) (hj : j < log.length) (i : Nat) : (aheadR log j)[i]? = some true ↔ Ch (leadB log) j i := by
  refine marksL_iff log j hj j _ (Nat.le_refl _) (by simp) (fun x hx => ?_) (fun x hx => ?_) i
  · constructor
    · intro h
      rw [List.getElem?_replicate] at h
      split at h <;> simp at h
    · intro h; have := h.lt; omega
  · rw [List.getElem?_replicate, if_pos (by omega)]

/-- What Before answers of two events. -/
theorem before_same (log : List Ev) (i j : Nat) (hj : j < log.length) (hl : log.length ≤ 60) : (aheadR log j)[i]?.getD false = (decide (i < j) && (aheadS (leadB log) j)[i]?.getD false) := by
  rw [Bool.eq_iff_iff, getD_true, aheadR_iff log j hj, Bool.and_eq_true, getD_true, aheadS_iff (leadB log) j (by omega), decide_eq_true_iff]
  constructor
  · exact fun h => ⟨h.lt, .inr h⟩
  · rintro ⟨h, rfl | h2⟩
    · omega
    · exact h2
end Go.Proofs.Ytfdbnilopfnifaa
