import Derived.Test.YtfdbnilopfnifaaT12
import Derived.Test.YtfdbnilopfnifaaT10
import Derived.Test.YtfdbnilopfnifaaR7
namespace Go.Proofs.Ytfdbnilopfnifaa
open Go.RowKit

/-! The program's closing of a set, and the least closed set. -/
def stepP (l : List Mv) (j : Nat) (m : List Bool) : List Bool :=
  match l[j]? with
  | some b => if m[j]?.getD false = true then addG l b j (addF l b j (addL (ldL l) j 0 m)) else m
  | none => m
def grwP (l : List Mv) : Nat → List Bool → List Bool
  | 0, m => m
  | c + 1, m => grwP l c (stepP l c m)
theorem stepP_len (l : List Mv) (j : Nat) (m : List Bool) : (stepP l j m).length = m.length := by
  unfold stepP
  split
  · split
    · rw [addG_len, addF_len, addL_len _ _ _ _ _ rfl]
    · rfl
  · rfl
theorem grwP_len (l : List Mv) : ∀ (c : Nat) (m : List Bool), (grwP l c m).length = m.length
  | 0, m => rfl
  | c + 1, m => by rw [grwP, grwP_len l c, stepP_len]

theorem Sub.refl (m : List Bool) : Sub m m := fun _ h => h
theorem Sub.trans {a b c : List Bool} (h : Sub a b) (h2 : Sub b c) : Sub a c := fun i hi => h2 i (h i hi)
theorem eq_of_sub {a b : List Bool} (hl : a.length = b.length) (h1 : Sub a b) (h2 : Sub b a) : a = b := by
  apply List.ext_getElem?
  intro i
  by_cases hi : i < a.length
  · have ea : a[i]? = some a[i] := by simp [hi]
    have eb : b[i]? = some (b[i]'(by omega)) := by simp
    rw [ea, eb]
    congr 1
    cases ha : a[i] with
    | true =>
      have := h1 i (by rw [ea, ha])
      rw [eb] at this
      simpa using this.symm
    | false =>
      cases hb : b[i]'(by omega) with
      | true =>
        have := h2 i (by rw [eb, hb])
        rw [ea, ha] at this
        simp at this
      | false => rfl
  · rw [List.getElem?_eq_none (by omega), List.getElem?_eq_none (by omega)]
/-- m lies between m0 and every closed set that has m0 (of any length). -/
structure MidS (log : List Ev) (m0 m : List Bool) : Prop where
  sub : Sub m0 m
  least : ∀ M, ClosedS log M → Sub m0 M → Sub m M
theorem MidS.refl (log : List Ev) (m : List Bool) : MidS log m m := ⟨Sub.refl m, fun _ _ h => h⟩
theorem MidS.trans {log : List Ev} {a b c : List Bool} (h : MidS log a b) (h2 : MidS log b c) : MidS log a c :=
  ⟨h.sub.trans h2.sub, fun M hM hs => h2.least M hM (h.least M hM hs)⟩
theorem Sub.set {m : List Bool} (i : Nat) : Sub m (m.set i true) := fun x hx => by
  rw [List.getElem?_set]
  split
  · rename_i e
    subst e
    rw [if_pos (List.getElem?_eq_some_iff.1 hx).1]
  · exact hx
theorem MidS.add {log : List Ev} {m : List Bool} {j i : Nat} (hj : m[j]? = some true) (hn : Need log m j i) : MidS log m (m.set i true) := by
  refine ⟨Sub.set i, fun M hM hs x hx => ?_⟩
  rw [List.getElem?_set] at hx
  split at hx
  · rename_i e
    subst e
    exact hM j (hs j hj) _ (hn.mono hs)
  · exact hs x hx
theorem MidS.addI {log : List Ev} {m : List Bool} {j : Nat} {r : Int} (hj : m[j]? = some true) (hn : ∀ i : Nat, r = i → Need log m j i) : MidS log m (addI m r) := by
  unfold Go.Proofs.Ytfdbnilopfnifaa.addI
  split
  · exact MidS.add hj (hn r.toNat (by omega))
  · exact MidS.refl _ _

theorem addL_mid {log : List Ev} {m : List Bool} {j : Nat} (hj : m[j]? = some true) (hjl : j < log.length) : MidS log m (addL (leadB log) j 0 m) := by
  have hjm : j < m.length := (List.getElem?_eq_some_iff.1 hj).1
  have hiff := addL_iff (leadB log) j _ 0 m rfl (by omega)
  refine ⟨fun x hx => (hiff x).2 (.inl hx), fun M hM hs x hx => ?_⟩
  rcases (hiff x).1 hx with h | ⟨_, h2, h3⟩
  · exact hs x h
  · exact hM j (hs j hj) x (.ahead h2 ((aheadR_iff log j hjl x).2 (.one h2 h3)))

theorem flgP_flagL (log : List Ev) (u : Nat) : ∀ c, flgP (log.map mvE) u c = flagL log u c
  | 0 => rfl
  | c + 1 => by
    rw [flgP, flagL, flgP_flagL log u c, List.getElem?_map]
    cases log[c]? <;> rfl
theorem gvP_givenL {n : Nat} (log : List Ev) (hL : ∀ v ∈ log, EvOk n v) (t : Nat) (u : Nat) : ∀ d k, log.length - k = d → gvP (log.map mvE) t u k = givenL log t u k := by
  intro d
  induction d with
  | zero => intro k hd; rw [gvP, if_neg (by simp; omega), givenL, if_neg (by omega)]
  | succ d ih =>
    intro k hd
    rw [gvP, if_pos (show k < (log.map mvE).length by simp; omega), givenL, if_pos (show k < log.length by omega), ih (k + 1) (by omega), List.getElem?_map]
    obtain ⟨v, hv⟩ := get_some log k (by omega)
    obtain ⟨tv, htv, _⟩ := (hL v (List.mem_of_getElem? hv)).th
    have hkd := stpOf_kd (hL v (List.mem_of_getElem? hv)).dok
    have e : gvB (mvE v) t u = (decide (v.thread = (t : Int)) && decide ((stpOf v.txt).kind = 2 ∧ (stpOf v.txt).which = u)) := by
      have h1 : decide ((mvE v).th = t) = decide (v.thread = (t : Int)) := by
        simp only [mvE, htv, Int.toNat_natCast]
        by_cases h : tv = t
        · simp [h]
        · have : (tv : Int) ≠ t := by omega
          simp [h, this]
      have h2 : decide ((mvE v).x.kind = 2 ∧ (mvE v).x.which = u ∧ (mvE v).x.count = 0) = decide ((stpOf v.txt).kind = 2 ∧ (stpOf v.txt).which = u) := by
        refine decide_eq_decide.2 ?_
        show ((stpOf v.txt).kind = 2 ∧ (stpOf v.txt).which = u ∧ (stpOf v.txt).count = 0) ↔ ((stpOf v.txt).kind = 2 ∧ (stpOf v.txt).which = u)
        generalize stpOf v.txt = x at hkd
        cases hkd <;> simp
      rw [gvB, h1, h2]
    rw [hv, Option.map_some, Option.map_some, Option.map_some, Option.getD_some, Option.getD_some, e]

theorem addF_mid {n : Nat} {log : List Ev} (hL : ∀ v ∈ log, EvOk n v) {m : List Bool} {j : Nat} {b : Ev} (hb : log[j]? = some b) (hj : m[j]? = some true) : MidS log m (addF (log.map mvE) (mvE b) j m) := by
  unfold addF
  split
  · rename_i h5
    have hk := stpOf_kd (hL b (List.mem_of_getElem? hb)).dok
    obtain ⟨u, hu⟩ : ∃ u : Nat, (stpOf b.txt).which = u := by
      generalize stpOf b.txt = x at hk
      cases hk <;> exact ⟨_, rfl⟩
    have h5' : (stpOf b.txt).kind = 5 := h5
    refine MidS.addI hj fun i hi => .flag b u hb h5' hu ?_
    have e : (mvE b).x.which = (u : Int) := hu
    rw [e, flgP_flagL] at hi
    exact hi
  · exact MidS.refl _ _

theorem gvsP_mid {n : Nat} {log : List Ev} (hL : ∀ v ∈ log, EvOk n v) {j : Nat} {b : Ev} (hb : log[j]? = some b) (hk1 : (stpOf b.txt).kind = 1) : ∀ (d i : Nat) (m : List Bool), j - i = d → m[j]? = some true → MidS log m (gvsP (log.map mvE) j (mvE b).x i m) := by
  have hk := stpOf_kd (hL b (List.mem_of_getElem? hb)).dok
  obtain ⟨u, hu, hc⟩ : ∃ u : Nat, (stpOf b.txt).which = u ∧ (stpOf b.txt).count = 0 := by
    generalize stpOf b.txt = x at hk hk1
    cases hk with
    | take k _ _ => exact ⟨k, rfl, rfl⟩
    | _ => simp at hk1
  intro d
  induction d with
  | zero => intro i m hd hj; rw [gvsP, if_neg (by omega)]; exact MidS.refl _ _
  | succ d ih =>
    intro i m hd hj
    rw [gvsP, if_pos (by omega)]
    split
    · rename_i hc2
      rw [Bool.and_eq_true, getD_true, List.getElem?_map] at hc2
      obtain ⟨hmi, hta⟩ := hc2
      cases ha : log[i]? with
      | none => rw [ha] at hta; simp at hta
      | some a =>
        rw [ha] at hta
        simp only [Option.map_some, Option.getD_some, tkB, decide_eq_true_iff] at hta
        obtain ⟨ta, hta', _⟩ := (hL a (List.mem_of_getElem? ha)).th
        have hN : ∀ x : Nat, gvI (log.map mvE) i = x → Need log m j x := fun x hx => by
          refine .give b a u i hb hk1 hu (by omega) hmi ha (hta.1.trans hk1) (hta.2.1.trans hu) ?_
          have e1 : (mvE a).x.which = (u : Int) := hta.2.1.trans hu
          have e2 : (mvE a).th = ta := by simp [mvE, hta']
          rw [gvI, List.getElem?_map, ha, Option.map_some, Option.map_some, Option.getD_some, e1, e2, gvP_givenL log hL ta u _ _ rfl] at hx
          rw [hta']; exact hx
        have h1 := MidS.addI hj hN
        exact h1.trans (ih (i + 1) _ (by omega) (h1.sub j hj))
    · exact ih (i + 1) m (by omega) hj
theorem addG_mid {n : Nat} {log : List Ev} (hL : ∀ v ∈ log, EvOk n v) {m : List Bool} {j : Nat} {b : Ev} (hb : log[j]? = some b) (hj : m[j]? = some true) : MidS log m (addG (log.map mvE) (mvE b) j m) := by
  unfold addG
  split
  · rename_i h1
    exact gvsP_mid hL hb h1 _ 0 m rfl hj
  · exact MidS.refl _ _
theorem stepP_mid {n : Nat} {log : List Ev} (hL : ∀ v ∈ log, EvOk n v) (j : Nat) (m : List Bool) : MidS log m (stepP (log.map mvE) j m) := by
  unfold stepP
  rw [List.getElem?_map]
  cases hb : log[j]? with
  | none => exact MidS.refl _ _
  | some b =>
    simp only [Option.map_some]
    split
    · rename_i hm
      have hj := getD_true.1 hm
      have hjl := (List.getElem?_eq_some_iff.1 hb).1
      rw [ldL_lead]
      have h1 := addL_mid hj hjl
      have h2 := addF_mid hL hb (h1.sub j hj)
      have h3 := addG_mid hL hb (h2.sub j (h1.sub j hj))
      exact (h1.trans h2).trans h3
    · exact MidS.refl _ _
theorem grwP_mid {n : Nat} {log : List Ev} (hL : ∀ v ∈ log, EvOk n v) : ∀ (c : Nat) (m : List Bool), MidS log m (grwP (log.map mvE) c m)
  | 0, _ => MidS.refl _ _
  | c + 1, m => (stepP_mid hL c m).trans (grwP_mid hL c _)
theorem grwP_fix {n : Nat} {log : List Ev} (hL : ∀ v ∈ log, EvOk n v) : ∀ (c : Nat) (m : List Bool), grwP (log.map mvE) c m = m → ∀ j, j < c → stepP (log.map mvE) j m = m
  | 0, m, _, j, hj => by omega
  | c + 1, m, h, j, hj => by
    rw [grwP] at h
    have h1 := (stepP_mid hL c m).sub
    have h2 := (grwP_mid hL c (stepP (log.map mvE) c m)).sub
    rw [h] at h2
    have e : stepP (log.map mvE) c m = m := eq_of_sub (stepP_len _ _ _) h2 h1
    rw [e] at h
    by_cases hjc : j = c
    · subst hjc; exact e
    · exact grwP_fix hL c m h j (by omega)

theorem gvsP_fix {n : Nat} {log : List Ev} (hL : ∀ v ∈ log, EvOk n v) {j : Nat} {b : Ev} (hb : log[j]? = some b) (hk1 : (stpOf b.txt).kind = 1) : ∀ (d i : Nat) (m : List Bool), j - i = d → m[j]? = some true → gvsP (log.map mvE) j (mvE b).x i m = m →
    ∀ x, i ≤ x → x < j → (m[x]?.getD false && ((log.map mvE)[x]?.map fun a => tkB a (mvE b).x).getD false) = true → addI m (gvI (log.map mvE) x) = m := by
  intro d
  induction d with
  | zero => intro i m hd hj h x hx hxj; omega
  | succ d ih =>
    intro i m hd hj h x hx hxj hc
    rw [gvsP, if_pos (by omega)] at h
    have key : ∀ m', Sub m m' → m'.length = m.length → gvsP (log.map mvE) j (mvE b).x (i + 1) m' = m → m' = m := fun m' hs hl hh => by
      have h2 := (gvsP_mid hL hb hk1 _ (i + 1) m' rfl (hs j hj)).sub
      rw [hh] at h2
      exact eq_of_sub hl h2 hs
    by_cases hxi : x = i
    · subst hxi
      rw [if_pos hc] at h
      refine key _ ?_ (addI_len _ _) h
      unfold addI
      split
      · exact Sub.set _
      · exact Sub.refl _
    · have e : (if (m[i]?.getD false && ((log.map mvE)[i]?.map fun a => tkB a (mvE b).x).getD false) = true then addI m (gvI (log.map mvE) i) else m) = m := by
        refine key _ ?_ ?_ h
        · split
          · unfold addI
            split
            · exact Sub.set _
            · exact Sub.refl _
          · exact Sub.refl _
        · split
          · exact addI_len _ _
          · rfl
      rw [e] at h
      exact ih (i + 1) m (by omega) hj h x (by omega) hxj hc

theorem set_fix {m : List Bool} {i : Nat} (hi : i < m.length) (h : m.set i true = m) : m[i]? = some true := by
  rw [← h, List.getElem?_set, if_pos rfl, if_pos hi]
/-- A set that does not grow is closed. -/
theorem fix_closed {n : Nat} {log : List Ev} (hL : ∀ v ∈ log, EvOk n v) (m : List Bool) (hm : m.length = 60) (hl : log.length ≤ 60) (hin : ∀ j : Nat, m[j]? = some true → j < log.length) (h : grwP (log.map mvE) log.length m = m) : ClosedS log m := by
  have hstep := grwP_fix hL _ m h
  -- what each event of the set has at once
  have hparts : ∀ (j : Nat) (b : Ev), log[j]? = some b → m[j]? = some true → addL (leadB log) j 0 m = m ∧ addF (log.map mvE) (mvE b) j m = m ∧ addG (log.map mvE) (mvE b) j m = m := fun j b hb hj => by
    have hjl := hin j hj
    have hs := hstep j hjl
    rw [stepP, List.getElem?_map, hb] at hs
    simp only [Option.map_some] at hs
    rw [if_pos (getD_true.2 hj), ldL_lead] at hs
    have h1 := addL_mid hj hjl
    have h2 := addF_mid hL hb (h1.sub j hj)
    have h3 := addG_mid hL hb (h2.sub j (h1.sub j hj))
    have e1 : addL (leadB log) j 0 m = m := eq_of_sub (addL_len _ _ _ _ _ rfl) (by have := h2.sub.trans h3.sub; rw [hs] at this; exact this) h1.sub
    rw [e1] at hs h2 h3
    have e2 : addF (log.map mvE) (mvE b) j m = m := eq_of_sub (addF_len _ _ _ _) (by have := h3.sub; rw [hs] at this; exact this) h2.sub
    rw [e2] at hs
    exact ⟨e1, e2, hs⟩
  have hlead : ∀ j : Nat, m[j]? = some true → ∀ i, i < j → leadB log i j = true → m[i]? = some true := fun j hj i hij hld => by
    obtain ⟨b, hb⟩ := get_some log j (hin j hj)
    have e1 := (hparts j b hb hj).1
    have hiff := addL_iff (leadB log) j _ 0 m rfl (by have := hin j hj; omega) i
    rw [e1] at hiff
    exact hiff.2 (.inr ⟨Nat.zero_le _, hij, hld⟩)
  have hch : ∀ (j i : Nat), Ch (leadB log) j i → m[j]? = some true → m[i]? = some true := fun j i hc hj => by
    induction hc with
    | one h1 h2 => exact hlead j hj _ h1 h2
    | more h1 h2 _ ih => exact hlead _ ih _ h1 h2
  intro j hj i hn
  obtain ⟨b, hb⟩ := get_some log j (hin j hj)
  obtain ⟨_, e2, e3⟩ := hparts j b hb hj
  cases hn with
  | ahead h1 h2 => exact hch j i ((aheadR_iff log j (hin j hj) i).1 h2) hj
  | flag b' u hb' h5 hu hf =>
    rw [hb] at hb'
    cases hb'
    have e5 : (mvE b).x.kind = 5 := h5
    have eu : (mvE b).x.which = (u : Int) := hu
    rw [addF, if_pos e5, eu, flgP_flagL, hf, addI, if_pos (by omega), Int.toNat_natCast] at e2
    refine set_fix ?_ e2
    rcases flagL_lt log u j with h | ⟨x, h, hx⟩
    · omega
    · have := hin j hj
      omega
  | give b' a u k hb' h1 hu hkj hmk ha ha1 hau hg =>
    rw [hb] at hb'
    cases hb'
    have e1 : (mvE b).x.kind = 1 := h1
    rw [addG, if_pos e1] at e3
    have hka := stpOf_kd (hL a (List.mem_of_getElem? ha)).dok
    have hkb := stpOf_kd (hL b (List.mem_of_getElem? hb)).dok
    have hcnt : (stpOf a.txt).count = (stpOf b.txt).count := by
      generalize stpOf a.txt = xa at *
      generalize stpOf b.txt = xb at *
      cases hka with
      | take _ _ _ =>
        cases hkb with
        | take _ _ _ => rfl
        | _ => simp at h1
      | _ => simp at ha1
    have htk : tkB (mvE a) (mvE b).x = true := by
      rw [tkB, decide_eq_true_iff]
      exact ⟨ha1.trans h1.symm, hau.trans hu.symm, hcnt⟩
    have hfix := gvsP_fix hL hb h1 _ 0 m rfl hj e3 k (Nat.zero_le _) hkj (by rw [List.getElem?_map, ha, Option.map_some, Option.map_some, Option.getD_some, htk, getD_true.2 hmk]; rfl)
    obtain ⟨ta, hta', _⟩ := (hL a (List.mem_of_getElem? ha)).th
    have e4 : (mvE a).x.which = (u : Int) := hau
    have e5 : (mvE a).th = ta := by simp [mvE, hta']
    rw [hta'] at hg
    rw [gvI, List.getElem?_map, ha, Option.map_some, Option.map_some, Option.getD_some, e4, e5, gvP_givenL log hL ta u _ _ rfl, hg, addI, if_pos (by omega), Int.toNat_natCast] at hfix
    refine set_fix ?_ hfix
    rcases givenL_lt log ta u _ (k + 1) rfl with h | ⟨x, h, hx⟩
    · omega
    · omega
end Go.Proofs.Ytfdbnilopfnifaa
