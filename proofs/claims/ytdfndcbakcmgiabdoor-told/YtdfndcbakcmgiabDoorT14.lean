import Derived.Test.YtdfndcbakcmgiabDoorT7
import Derived.Test.YtdfndcbakcmgiabDoorT10
import Derived.Test.YtdfndcbakcmgiabDoorR7
namespace Go.Proofs.YtdfndcbakcmgiabDoor
open Go.RowKit

/-! The program's closing of a set, and the least closed set. -/
def stepP (l : List Mv) (j : Nat) (m : List Bool) : List Bool :=
  match l[j]? with
  | some b => if m[j]?.getD false = true then addG l b j (addF l b j (addL (ldL l) j 0 m)) else m
  | none => m
def grwP (l : List Mv) : Nat → List Bool → List Bool
  | 0, m => m
  | c + 1, m => grwP l c (stepP l c m)
theorem stepP_len (l : List Mv) (j : Nat) (m : List Bool) : (stepP l j m).length = m.length := by
  unfold stepP
  split
  · split
    · rw [addG_len, addF_len, addL_len _ _ _ _ _ rfl]
    · rfl
  · rfl
theorem grwP_len (l : List Mv) : ∀ (c : Nat) (m : List Bool), (grwP l c m).length = m.length
  | 0, m => rfl
  | c + 1, m => by rw [grwP, grwP_len l c, stepP_len]

theorem Sub.refl (m : List Bool) : Sub m m := fun _ h => h
theorem Sub.trans {a b c : List Bool} (h : Sub a b) (h2 : Sub b c) : Sub a c := fun i hi => h2 i (h i hi)
theorem eq_of_sub {a b : List Bool} (hl : a.length = b.length) (h1 : Sub a b) (h2 : Sub b a) : a = b := by
  apply List.ext_getElem?
  intro i
  by_cases hi : i < a.length
  · have ea : a[i]? = some a[i] := by simp [hi]
    have eb : b[i]? = some (b[i]'(by omega)) := by simp
    rw [ea, eb]
    congr 1
    cases ha : a[i] with
    | true =>
      have := h1 i (by rw [ea, ha])
      rw [eb] at this
      simpa using this.symm
    | false =>
      cases hb : b[i]'(by omega) with
      | true =>
        have := h2 i (by rw [eb, hb])
        rw [ea, ha] at this
        simp at this
      | false => rfl
  · rw [List.getElem?_eq_none (by omega), List.getElem?_eq_none (by omega)]
/-- m lies between m0 and every closed set that has m0 (of any length). -/
structure MidS (log : List Ev) (m0 m : List Bool) : Prop where
  sub : Sub m0 m
  least : ∀ M, ClosedS log M → Sub m0 M → Sub m M
theorem MidS.refl (log : List Ev) (m : List Bool) : MidS log m m := ⟨Sub.refl m, fun _ _ h => h⟩
theorem MidS.trans {log : List Ev} {a b c : List Bool} (h : MidS log a b) (h2 : MidS log b c) : MidS log a c :=
  ⟨h.sub.trans h2.sub, fun M hM hs => h2.least M hM (h.least M hM hs)⟩
theorem Sub.set {m : List Bool} (i : Nat) : Sub m (m.set i true) := fun x hx => by
  rw [List.getElem?_set]
  split
  · rename_i e
    subst e
    rw [if_pos (List.getElem?_eq_some_iff.1 hx).1]
  · exact hx
theorem MidS.add {log : List Ev} {m : List Bool} {j i : Nat} (hj : m[j]? = some true) (hn : Need log m j i) : MidS log m (m.set i true) := by
  refine ⟨Sub.set i, fun M hM hs x hx => ?_⟩
  rw [List.getElem?_set] at hx
  split at hx
  · rename_i e
    subst e
    exact hM j (hs j hj) _ (hn.mono hs)
  · exact hs x hx
theorem MidS.addI {log : List Ev} {m : List Bool} {j : Nat} {r : Int} (hj : m[j]? = some true) (hn : ∀ i : Nat, r = i → Need log m j i) : MidS log m (addI m r) := by
  unfold Go.Proofs.YtdfndcbakcmgiabDoor.addI
  split
  · exact MidS.add hj (hn r.toNat (by omega))
  · exact MidS.refl _ _

theorem addL_mid {log : List Ev} {m : List Bool} {j : Nat} (hj : m[j]? = some true) (hjl : j < log.length) : MidS log m (addL (leadB log) j 0 m) := by
  have hjm : j < m.length := (List.getElem?_eq_some_iff.1 hj).1
  have hiff := addL_iff (leadB log) j _ 0 m rfl (by omega)
  refine ⟨fun x hx => (hiff x).2 (.inl hx), fun M hM hs x hx => ?_⟩
  rcases (hiff x).1 hx with h | ⟨_, h2, h3⟩
  · exact hs x h
  · exact hM j (hs j hj) x (.ahead h2 ((aheadR_iff log j hjl x).2 (.one h2 h3)))

theorem flgP_flagL (log : List Ev) (u : Nat) : ∀ c, flgP (log.map mvE) u c = flagL log u c
  | 0 => rfl
  | c + 1 => by
    rw [flgP, flagL, flgP_flagL log u c, List.getElem?_map]
    cases log[c]? <;> rfl
theorem gvP_givenL {n : Nat} (log : List Ev) (hL : ∀ v ∈ log, EvOk n v) (t : Nat) (u : Nat) : ∀ d k, log.length - k = d → gvP (log.map mvE) t u k = givenL log t u k := by
  intro d
  induction d with
  | zero => intro k hd; rw [gvP, if_neg (by simp; omega), givenL, if_neg (by omega)]
  | succ d ih =>
    intro k hd
    rw [gvP, if_pos (show k < (log.map mvE).length by simp; omega), givenL, if_pos (show k < log.length by omega), ih (k + 1) (by omega), List.getElem?_map]
    obtain ⟨v, hv⟩ := get_some log k (by omega)
    obtain ⟨tv, htv, _⟩ := (hL v (List.mem_of_getElem? hv)).th
    have hkd := stpOf_kd (hL v (List.mem_of_getElem? hv)).dok
    have e : gvB (mvE v) t u = (decide (v.thread = (t : Int)) && decide ((stpOf v.txt).kind = 2 ∧ (stpOf v.txt).which = u)) := by
      have h1 : decide ((mvE v).th = t) = decide (v.thread = (t : Int)) := by
        simp only [mvE, htv, Int.toNat_natCast]
        by_cases h : tv = t
        · simp [h]
        · have : (tv : Int) ≠ t := by omega
          simp [h, this]
      have h2 : decide ((mvE v).x.kind = 2 ∧ (mvE v).x.which = u ∧ (mvE v).x.count = 0) = decide ((stpOf v.txt).kind = 2 ∧ (stpOf v.txt).which = u) := by
        refine decide_eq_decide.2 ?_
        show ((stpOf v.txt).kind = 2 ∧ (stpOf v.txt).which = u ∧ (stpOf v.txt).count = 0) ↔ ((stpOf v.txt).kind = 2 ∧ (stpOf v.txt).which = u)
        generalize stpOf v.txt = x at hkd
        cases hkd <;> simp
      rw [gvB, h1, h2]
    rw [hv, Option.map_some, Option.map_some, Option.map_some, Option.getD_some, Option.getD_some, e]

theorem addF_mid {n : Nat} {log : List Ev} (hL : ∀ v ∈ log, EvOk n v) {m : List Bool} {j : Nat} {b : Ev} (hb : log[j]? = some b) (hj : m[j]? = some true) : MidS log m (addF (log.map mvE) (mvE b) j m) := by
  unfold addF
  split
  · rename_i h5
    have hk := stpOf_kd (hL b (List.mem_of_getElem? hb)).dok
    obtain ⟨u, hu⟩ : ∃ u : Nat, (stpOf b.txt).which = u := by
      generalize stpOf b.txt = x at hk
      cases hk <;> exact ⟨_, rfl⟩
    have h5' : (stpOf b.txt).kind = 5 := h5
    refine MidS.addI hj fun i hi => .flag b u hb h5' hu ?_
    have e : (mvE b).x.which = (u : Int) := hu
    rw [e, flgP_flagL] at hi
    exact hi
  · exact MidS.refl _ _

theorem gvsP_mid {n : Nat} {log : List Ev} (hL : ∀ v ∈ log, EvOk n v) {j : Nat} {b : Ev} (hb : log[j]? = some b) (hk1 : (stpOf b.txt).kind = 1) : ∀ (d i : Nat) (m : List Bool), j - i = d → m[j]? = some true → MidS log m (gvsP (log.map mvE) j (mvE b).x i m) := by
  have hk := stpOf_kd (hL b (List.mem_of_getElem? hb)).dok
  obtain ⟨u, hu, hc⟩ : ∃ u : Nat, (stpOf b.txt).which = u ∧ (stpOf b.txt).count = 0 := by
    generalize stpOf b.txt = x at hk hk1
    cases hk with
    | take k _ _ => exact ⟨k, rfl, rfl⟩
    | _ => simp at hk1
  intro d
  induction d with
  | zero => intro i m hd hj; rw [gvsP, if_neg (by omega)]; exact MidS.refl _ _
  | succ d ih =>
    intro i m hd hj
    rw [gvsP, if_pos (by omega)]
    split
    · rename_i hc2
      rw [Bool.and_eq_true, getD_true, List.getElem?_map] at hc2
      obtain ⟨hmi, hta⟩ := hc2
      cases ha : log[i]? with
      | none => rw [ha] at hta; simp at hta
      | some a =>
        rw [ha] at hta
        simp only [Option.map_some, Option.getD_some, tkB, decide_eq_true_iff] at hta
        obtain ⟨ta, hta', _⟩ := (hL a (List.mem_of_getElem? ha)).th
        have hN : ∀ x : Nat, gvI (log.map mvE) i = x → Need log m j x := fun x hx => by
          refine .give b a u i hb hk1 hu (by omega) hmi ha (hta.1.trans hk1) (hta.2.1.trans hu) ?_
          have e1 : (mvE a).x.which = (u : Int) := hta.2.1.trans hu
          have e2 : (mvE a).th = ta := by simp [mvE, hta']
          rw [gvI, List.getElem?_map, ha, Option.map_some, Option.map_some, Option.getD_some, e1, e2, gvP_givenL log hL ta u _ _ rfl] at hx
          rw [hta']; exact hx
        have h1 := MidS.addI hj hN
        exact h1.trans (ih (i + 1) _ (by omega) (h1.sub j hj))
    · exact ih (i + 1) m (by omega) hj
theorem addG_mid {n : Nat} {log : List Ev} (hL : ∀ v ∈ log, EvOk n v) {m : List Bool} {j : Nat} {b : Ev} (hb : log[j]? = some b) (hj : m[j]? = some true) : MidS log m (addG (log.map mvE) (mvE b) j m) := by
  unfold addG
  split
  · rename_i h1
    exact gvsP_mid hL hb h1 _ 0 m rfl hj
  · exact MidS.refl _ _
theorem stepP_mid {n : Nat} {log : List Ev} (hL : ∀ v ∈ log, EvOk n v) (j : Nat) (m : List Bool) : MidS log m (stepP (log.map mvE) j m) := by
  unfold stepP
  rw [List.getElem?_map]
  cases hb : log[j]? with
  | none => exact MidS.refl _ _
  | some b =>
    simp only [Option.map_some]
    split
    · rename_i hm
      have hj := getD_true.1 hm
      have hjl := (List.getElem?_eq_some_iff.1 hb).1
      rw [ldL_lead]
      have h1 := addL_mid hj hjl
      have h2 := addF_mid hL hb (h1.sub j hj)
      have h3 := addG_mid hL hb (h2.sub j (h1.sub j hj))
      exact (h1.trans h2).trans h3
    · exact MidS.refl _ _
theorem grwP_mid {n : Nat} {log : List Ev} (hL : ∀ v ∈ log, EvOk n v) : ∀ (c : Nat) (m : List Bool), MidS log m (grwP (log.map mvE) c m)
  | 0, _ => MidS.refl _ _
  | c + 1, m => (stepP_mid hL c m).trans (grwP_mid hL c _)
theorem grwP_fix {n : Nat} {log : List Ev} (hL : ∀ v ∈ log, EvOk n v) : ∀ (c : Nat) (m : List Bool), grwP (log.map mvE) c m = m → ∀ j, j < c → stepP (log.map mvE) j m = m
  | 0, m, _, j, hj => by omega
  | c + 1, m, h, j, hj => by
    rw [grwP] at h
    have h1 := (stepP_mid hL c m).sub
    have h2 := (grwP_mid hL c (stepP (log.map mvE) c m)).sub
    rw [h] at h2
    have e : stepP (log.map mvE) c m = m := eq_of_sub (stepP_len _ _ _) h2 h1
    rw [e] at h
    by_cases hjc : j = c
    · subst hjc; exact e
    · exact grwP_fix hL c m h j (by omega)

theorem gvsP_fix {n : Nat} {log : List Ev} (hL : ∀ v ∈ log, EvOk n v) {j : Nat} {b : Ev} (hb : log[j]? = some b) (hk1 : (stpOf b.txt).kind = 1) : ∀ (d i : Nat) (m : List Bool), j - i = d → m[j]? = some true → gvsP (log.map mvE) j (mvE b).x i m = m →
    ∀ x, i ≤ x → x < j → (m[x]?.getD false && ((log.map mvE)[x]?.map fun a => tkB a (mvE b).x).getD false) = true → addI m (gvI (log.map mvE) x) = m := by
  intro d
  induction d with
  | zero => intro i m hd hj h x hx hxj; omega
  | succ d ih =>
    intro i m hd hj h x hx hxj hc
    rw [gvsP, if_pos (by omega)] at h
    have key : ∀ m', Sub m m' → m'.length = m.length → gvsP (log.map mvE) j (mvE b).x (i + 1) m' = m → m' = m := fun m' hs hl hh => by
      have h2 := (gvsP_mid hL hb hk1 _ (i + 1) m' rfl (hs j hj)).sub
      rw [hh] at h2
      exact eq_of_sub hl h2 hs
    by_cases hxi : x = i
    · subst hxi
      rw [if_pos hc] at h
      refine key _ ?_ (addI_len _ _) h
      unfold addI
      split
      · exact Sub.set _
      · exact Sub.refl _
    · have e : (if (m[i]?.getD false && ((log.map mvE)[i]?.map fun a => tkB a (mvE b).x).getD false) = true then addI m (gvI (log.map mvE) i) else m) = m := by
        refine key _ ?_ ?_ h
        · split
          · unfold addI
            split
            · exact Sub.set _
            · exact Sub.refl _
          · exact Sub.refl _
        · split
          · exact addI_len _ _
          · rfl
      rw [e] at h
      exact ih (i + 1) m (by omega) hj h x (by omega) hxj hc

theorem set_fix {m : List Bool} {i : Nat} (hi : i < m.length) (h : m.set i true = m) : m[i]? = some true := by
  rw [← h, List.getElem?_set, if_pos rfl, if_pos hi]
/-- A set that does not grow is closed. -/
theorem fix_closed {n : Nat} {log : List Ev} (hL : ∀ v ∈ log, EvOk n v) (m : List Bool) (hm : m.length = 60) (hl : log.length ≤ 60) (hin : ∀ j : Nat, m[j]? = some true → j < log.length) (h : grwP (log.map mvE) log.length m = m) : ClosedS log m := by
  have hstep := grwP_fix hL _ m h
  -- what each event of the set has at once
  have hparts : ∀ (j : Nat) (b : Ev), log[j]? = some b → m[j]? = some true → addL (leadB log) j 0 m = m ∧ addF (log.map mvE) (mvE b) j m = m ∧ addG (log.map mvE) (mvE b) j m = m := fun j b hb hj => by
    have hjl := hin j hj
    have hs := hstep j hjl
    rw [stepP, List.getElem?_map, hb] at hs
    simp only [Option.map_some] at hs
    rw [if_pos (getD_true.2 hj), ldL_lead] at hs
    have h1 := addL_mid hj hjl
    have h2 := addF_mid hL hb (h1.sub j hj)
    have h3 := addG_mid hL hb (h2.sub j (h1.sub j hj))
    have e1 : addL (leadB log) j 0 m = m := eq_of_sub (addL_len _ _ _ _ _ rfl) (by have := h2.sub.trans h3.sub; rw [hs] at this; exact this) h1.sub
    rw [e1] at hs h2 h3
    have e2 : addF (log.map mvE) (mvE b) j m = m := eq_of_sub (addF_len _ _ _ _) (by have := h3.sub; rw [hs] at this; exact this) h2.sub
    rw [e2] at hs
    exact ⟨e1, e2, hs⟩
  have hlead : ∀ j : Nat, m[j]? = some true → ∀ i, i < j → leadB log i j = true → m[i]? = some true := fun j hj i hij hld => by
    obtain ⟨b, hb⟩ := get_some log j (hin j hj)
    have e1 := (hparts j b hb hj).1
    have hiff := addL_iff (leadB log) j _ 0 m rfl (by have := hin j hj; omega) i
    rw [e1] at hiff
    exact hiff.2 (.inr ⟨Nat.zero_le _, hij, hld⟩)
  have hch : ∀ (j i : Nat), Ch (leadB log) j i → m[j]? = some true → m[i]? = some true := fun j i hc hj => by
    induction hc with
    | one h1 h2 => exact hlead j hj _ h1 h2
    | more h1 h2 _ ih => exact hlead _ ih _ h1 h2
  intro j hj i hn
  obtain ⟨b, hb⟩ := get_some log j (hin j hj)
  obtain ⟨_, e2, e3⟩ := hparts j b hb hj
  cases hn with
  | ahead h1 h2 => exact hch j i ((aheadR_iff log j (hin j hj) i).1 h2) hj
  | flag b' u hb' h5 hu hf =>
    rw [hb] at hb'
    cases hb'
    have e5 : (mvE b).x.kind = 5 := h5
    have eu : (mvE b).x.which = (u : Int) := hu
    rw [addF, if_pos e5, eu, flgP_flagL, hf, addI, if_pos (by omega), Int.toNat_natCast] at e2
    refine set_fix ?_ e2
    rcases flagL_lt log u j with h | ⟨x, h, hx⟩
    · omega
    · have := hin j hj
      omega
  | give b' a u k hb' h1 hu hkj hmk ha ha1 hau hg =>
    rw [hb] at hb'
    cases hb'
    have e1 : (mvE b).x.kind = 1 := h1
    rw [addG, if_pos e1] at e3
    have hka := stpOf_kd (hL a (List.mem_of_getElem? ha)).dok
    have hkb := stpOf_kd (hL b (List.mem_of_getElem? hb)).dok
    have hcnt : (stpOf a.txt).count = (stpOf b.txt).count := by
      generalize stpOf a.txt = xa at *
      generalize stpOf b.txt = xb at *
      cases hka with
      | take _ _ _ =>
        cases hkb with
        | take _ _ _ => rfl
        | _ => simp at h1
      | _ => simp at ha1
    have htk : tkB (mvE a) (mvE b).x = true := by
      rw [tkB, decide_eq_true_iff]
      exact ⟨ha1.trans h1.symm, hau.trans hu.symm, hcnt⟩
    have hfix := gvsP_fix hL hb h1 _ 0 m rfl hj e3 k (Nat.zero_le _) hkj (by rw [List.getElem?_map, ha, Option.map_some, Option.map_some, Option.getD_some, htk, getD_true.2 hmk]; rfl)
    obtain ⟨ta, hta', _⟩ := (hL a (List.mem_of_getElem? ha)).th
    have e4 : (mvE a).x.which = (u : Int) := hau
    have e5 : (mvE a).th = ta := by simp [mvE, hta']
    rw [hta'] at hg
    rw [gvI, List.getElem?_map, ha, Option.map_some, Option.map_some, Option.getD_some, e4, e5, gvP_givenL log hL ta u _ _ rfl, hg, addI, if_pos (by omega), Int.toNat_natCast] at hfix
    refine set_fix ?_ hfix
    rcases givenL_lt log ta u _ (k + 1) rfl with h | ⟨x, h, hx⟩
    · omega
    · omega
end Go.Proofs.YtdfndcbakcmgiabDoor
namespace Go.Proofs.YtdfndcbakcmgiabDoor
open Go.RowKit
attribute [local go_sem ↓] loadQ_fold storeQ_fold zeroQ_fold eqQ_fold

abbrev trBox (w : World) (g n c : Nat) (Wn : Value) : World := w.alloc (.cells #[.slice (some ⟨g, 0, none⟩) n c, Wn] 52)
abbrev qBox (w : World) (m : List Bool) : World := w.alloc (.cells (setC m) 156)
/-- A trace in its box, and two sets in theirs. -/
structure TrIn (w wr : World) (g n c : Nat) (Wn : Value) : Prop where
  c0 : wr.cell? ⟨w.heap.size, 0, none⟩ = some (.slice (some ⟨g, 0, none⟩) n c)
  c1 : wr.cell? ⟨w.heap.size, 1, none⟩ = some Wn
theorem TrIn.below {w wr w' : World} {g n c : Nat} {Wn : Value} (h : TrIn w wr g n c Wn) (hb : Below wr.heap.size wr w') : TrIn w w' g n c Wn := ⟨cell_later hb h.c0, cell_later hb h.c1⟩
theorem TrIn.row {w wr : World} {g n c k : Nat} {Wn : Value} (h : TrIn w wr g n c Wn) (hk : w.heap.size ≠ k) (cs : Array Value) : TrIn w (wr.setRow k cs) g n c Wn :=
  ⟨by rw [cell_setRow_other _ _ _ _ hk]; exact h.c0, by rw [cell_setRow_other _ _ _ _ hk]; exact h.c1⟩
theorem TrIn.put {w wr : World} {g n c : Nat} {Wn : Value} (h : TrIn w wr g n c Wn) {p : Addr} (hp : w.heap.size ≠ p.block) (u : Value) : TrIn w (wr.setCell p u) g n c Wn :=
  ⟨by rw [cell_put_other _ hp]; exact h.c0, by rw [cell_put_other _ hp]; exact h.c1⟩
theorem TrIn.new (w : World) (g n c : Nat) (Wn : Value) : TrIn w (trBox w g n c Wn) g n c Wn := ⟨cellB (heap_alloc_new _ _) rfl, cellB (heap_alloc_new _ _) rfl⟩

set_option maxRecDepth 100000 in
set_option maxHeartbeats 4000000 in
theorem grow_any (g c : Nat) (Wn : Value) (l : List Mv) (m : List Bool) (hm : m.length = 60) (w : World) (hE : MvsAt w g l) (hl : l.length ≤ 60) :
    Calls Tryd.prog 86 #[.agg #[.slice (some ⟨g, 0, none⟩) l.length c, Wn], .agg (setC m)] w fun e w' => e = .returned (.agg (setC (grwP l l.length m))) ∧ Below w.heap.size w w' := by
  have hb0 : Below w.heap.size w (trBox w g l.length c Wn) := (Below.refl _ _).alloc (Nat.le_refl _) _
  have s1 : SetIn (qBox (qBox (trBox w g l.length c Wn) m) zeroM60) (w.heap.size + 1) m := SetIn.old ⟨heap_alloc2_new _ _ _, hm⟩ _
  have s2 : SetIn (qBox (qBox (trBox w g l.length c Wn) m) zeroM60) (w.heap.size + 2) zeroM60 := ⟨by simpa using heap_alloc_new (qBox (trBox w g l.length c Wn) m) (.cells (setC zeroM60) 156), rfl⟩
  have T0 : TrIn w (qBox (qBox (trBox w g l.length c Wn) m) zeroM60) g l.length c Wn := ((TrIn.new w g l.length c Wn).below ((Below.refl _ _).alloc (Nat.le_refl _) _)).below ((Below.refl _ _).alloc (Nat.le_refl _) _)
  have hB0 : Below w.heap.size w (qBox (qBox (trBox w g l.length c Wn) m) zeroM60) := (two_new ((Below.refl _ _).alloc (Nat.le_refl _) _)).2.2.1
  have q0 := T0.c0
  generalize hres : grwP l l.length m = res
  have HR : Hid (grwP l l.length m = res) := hres
  clear hres
  go_enter Tryd.func86, Tryd.ntmps86
  go_wp2
  go_loopw [5] (fun x wr => ∃ (k : Nat) (m : List Bool), k ≤ l.length ∧ x = .int .i64 ((k : Int) - 1) ∧ Hid (grwP l k m = res) ∧ SetIn wr (w.heap.size + 1) m ∧ SetIn wr (w.heap.size + 2) zeroM60 ∧ TrIn w wr g l.length c Wn ∧ Below w.heap.size w wr) (fun x _ => (intOf x + 1).toNat)
  case atStart => exact ⟨l.length, m, Nat.le_refl _, rfl, HR, s1, s2, T0, hB0⟩
  case round =>
    obtain ⟨k, m, hk, rfl, HE, r1, r2, T, hBr⟩ := hrel
    clear HR s1 s2 T0 hB0 hb0 q0
    cases k with
    | zero =>
      have hres : res = m := by have h := HE.out; rw [grwP] at h; exact h.symm
      subst hres
      have hld := r1.loadQ
      have hst := storeQ_run r2 r1.n
      have hfin := r2.setRow r1.n
      clear HE
      go_wp2
      exact bodyPost_ret (v := .agg (setC res)) (results_cell_row Tryd.results86 _ _ (w.heap.size + 2) _ _ _ _ rfl hfin.blk Tryd.underlying156 rfl (by rw [setC_size, r1.n]; exact info60)) rfl ⟨rfl, below_setRow hBr (by omega) _⟩
    | succ k =>
      have hz : (((k + 1 : Nat) : Int) - 1) = (k : Int) := by omega
      rw [hz]
      have hkl : k < l.length := by omega
      obtain ⟨b, hb⟩ : ∃ b, l[k]? = some b := ⟨l[k], by simp [hkl]⟩
      obtain ⟨q, hq⟩ : ∃ q, m[k]? = some q := ⟨m[k]'(by rw [r1.n]; omega), by simp⟩
      have HE1 : Hid (grwP l k (if q = true then addG l b k (addF l b k (addL (ldL l) k 0 m)) else m) = res) := by
        have h := HE.out
        rw [grwP, stepP, hb] at h
        simp only [hq, Option.getD_some] at h
        exact h
      have cq := r1.cell hq
      have k0 : (0 : Int) ≤ (k : Int) := by omega
      have k60 : (k : Int) < 60 := by omega
      clear HE hq
      cases q with
      | false =>
        have HN : Hid (grwP l k m = res) := by have h := HE1.out; exact h
        clear HE1
        go_wp2
        go_roundw
        case rel => exact ⟨k, m, by omega, rfl, HN, r1, r2, T, hBr⟩
        case measure => (simp [intOf] <;> omega)
      | true =>
        have HN : Hid (grwP l k (addG l b k (addF l b k (addL (ldL l) k 0 m))) = res) := by have h := HE1.out; exact h
        have hEr := hE.below hBr
        have hA := addLeading_any g c Wn l m r1.n wr hEr k hkl hl _ rfl
        have n1 : (addL (ldL l) k 0 m).length = 60 := by rw [addL_len _ _ _ _ _ rfl]; exact r1.n
        generalize addL (ldL l) k 0 m = m1 at *
        have hF := fun w' (h : MvsAt w' g l) => addFlagChange_any g c Wn l m1 n1 w' h k b hb hl _ rfl
        have n2 : (addF l b k m1).length = 60 := by rw [addF_len]; exact n1
        generalize addF l b k m1 = m2 at *
        have hG := fun w' (h : MvsAt w' g l) => addGives_any g c Wn l m2 n2 w' h k b hb hl _ rfl
        have n3 : (addG l b k m2).length = 60 := by rw [addG_len]; exact n2
        generalize addG l b k m2 = m3 at *
        have hld := r1.loadQ
        have e0 := T.c0
        have e1 := T.c1
        clear HE1 hb
        -- the worlds behind each store
        go_wp2_with (first
          | (go_at_call 92; refine hA.mono ?_; rintro e w2 ⟨rfl, hb2⟩; have u1 := r1.below hb2; have hst1 := storeQ_run u1 n1; have v1 := u1.setRow n1; have hldv := v1.loadQ; have T2 := (T.below hb2).row (show w.heap.size ≠ w.heap.size + 1 by omega) (setC m1); have f0 := T2.c0; have f1 := T2.c1; have R2 := (r2.below hb2).rowOther (show w.heap.size + 2 ≠ w.heap.size + 1 by omega) (setC m1); have B2 := below_setRow (hBr.trans (hb2.mono hBr.size)) (show w.heap.size ≤ w.heap.size + 1 by omega) (setC m1))
          | (go_at_call 93; refine (hF _ (hE.below B2)).mono ?_; rintro e w3 ⟨rfl, hb3⟩; have u3 := v1.below hb3; have hst3 := storeQ_run u3 n2; have v3 := u3.setRow n2; have hld3 := v3.loadQ; have T3 := (T2.below hb3).row (show w.heap.size ≠ w.heap.size + 1 by omega) (setC m2); have h0 := T3.c0; have h1 := T3.c1; have R3 := (R2.below hb3).rowOther (show w.heap.size + 2 ≠ w.heap.size + 1 by omega) (setC m2); have B3 := below_setRow (B2.trans (hb3.mono B2.size)) (show w.heap.size ≤ w.heap.size + 1 by omega) (setC m2))
          | (go_at_call 94; refine (hG _ (hE.below B3)).mono ?_; rintro e w4 ⟨rfl, hb4⟩; have u4 := v3.below hb4; have hst4 := storeQ_run u4 n3))
        go_roundw
        case rel => exact ⟨k, m3, by omega, rfl, HN, u4.setRow n3, (R3.below hb4).rowOther (by omega) _, (T3.below hb4).row (by omega) _, below_setRow (B3.trans (hb4.mono B3.size)) (by omega) _⟩
        case measure => (simp [intOf] <;> omega)

/-! Closing a set until it does not grow. -/
theorem full_closed (log : List Ev) : ClosedS log (List.replicate log.length true) := by
  intro j hj i hn
  have hjl : j < log.length := by have := (List.getElem?_eq_some_iff.1 hj).1; simpa using this
  have hi : i < log.length := by
    cases hn with
    | ahead h1 _ => omega
    | flag b u _ _ _ hf =>
      rcases flagL_lt log u j with h | ⟨x, h, hx⟩
      · omega
      · omega
    | give b a u k _ _ _ _ _ _ _ _ hg =>
      rcases givenL_lt log a.thread u _ (k + 1) rfl with h | ⟨x, h, hx⟩
      · omega
      · omega
  rw [List.getElem?_replicate, if_pos hi]
def InN (n : Nat) (m : List Bool) : Prop := ∀ j : Nat, m[j]? = some true → j < n
theorem MidS.inN {log : List Ev} {a b : List Bool} (h : MidS log a b) (ha : InN log.length a) : InN log.length b := fun j hj => by
  have := h.least _ (full_closed log) (fun i hi => by rw [List.getElem?_replicate, if_pos (ha i hi)]) j hj
  have := (List.getElem?_eq_some_iff.1 this).1
  simpa using this
theorem cntF_sub : ∀ (a b : List Bool), a.length = b.length → Sub a b → cntF b ≤ cntF a
  | [], [], _, _ => Nat.le_refl _
  | [], _ :: _, h, _ => by simp at h
  | _ :: _, [], h, _ => by simp at h
  | x :: a, y :: b, h, hs => by
    have ih := cntF_sub a b (by simpa using h) (fun i hi => by have := hs (i + 1) (by simpa using hi); simpa using this)
    have h0 := hs 0
    cases x <;> cases y <;> simp [cntF] at ih h0 ⊢ <;> omega
theorem cntF_lt : ∀ (a b : List Bool), a.length = b.length → Sub a b → a ≠ b → cntF b < cntF a
  | [], [], _, _, h => absurd rfl h
  | [], _ :: _, h, _, _ => by simp at h
  | _ :: _, [], h, _, _ => by simp at h
  | x :: a, y :: b, h, hs, hne => by
    have hs' : Sub a b := fun i hi => by have := hs (i + 1) (by simpa using hi); simpa using this
    have hl : a.length = b.length := by simpa using h
    have h1 := cntF_sub a b hl hs'
    have h0 := hs 0
    by_cases hab : a = b
    · subst hab
      cases x <;> cases y <;> simp [cntF] at h0 hne ⊢
    · have ih := cntF_lt a b hl hs' hab
      cases x <;> cases y <;> simp [cntF] at h0 ih ⊢ <;> omega

theorem eqQ_dec (w : World) (a b : List Bool) (ha : a.length = 60) (hb : b.length = 60) : (eqQ (.agg (setC a)) (.agg (setC b))).run Tryd.prog w = .ok (.bool (decide (a = b))) w := by
  obtain ⟨r, hr, hiff⟩ := eqQ_run w a b ha hb
  have : r = decide (a = b) := by
    rw [Bool.eq_iff_iff, hiff, decide_eq_true_iff]
  rw [← this]; exact hr

set_option maxRecDepth 100000 in
set_option maxHeartbeats 4000000 in
theorem closure_any (g c : Nat) (Wn : Value) {n : Nat} (log : List Ev) (hL : ∀ v ∈ log, EvOk n v) (m0 : List Bool) (hm : m0.length = 60) (hin : InN log.length m0) (w : World) (hE : MvsAt w g (log.map mvE)) (hl : log.length ≤ 60) :
    Calls Tryd.prog 82 #[.agg #[.slice (some ⟨g, 0, none⟩) log.length c, Wn], .agg (setC m0)] w fun e w' => ∃ m, e = .returned (.agg (setC m)) ∧ Below w.heap.size w w' ∧ m.length = 60 ∧ MidS log m0 m ∧ ClosedS log m := by
  have s1 : SetIn (qBox (qBox (trBox w g log.length c Wn) m0) zeroM60) (w.heap.size + 1) m0 := SetIn.old ⟨heap_alloc2_new _ _ _, hm⟩ _
  have s2 : SetIn (qBox (qBox (trBox w g log.length c Wn) m0) zeroM60) (w.heap.size + 2) zeroM60 := ⟨by simpa using heap_alloc_new (qBox (trBox w g log.length c Wn) m0) (.cells (setC zeroM60) 156), rfl⟩
  have T0 : TrIn w (qBox (qBox (trBox w g log.length c Wn) m0) zeroM60) g log.length c Wn := ((TrIn.new w g log.length c Wn).below ((Below.refl _ _).alloc (Nat.le_refl _) _)).below ((Below.refl _ _).alloc (Nat.le_refl _) _)
  have hB0 : Below w.heap.size w (qBox (qBox (trBox w g log.length c Wn) m0) zeroM60) := (two_new ((Below.refl _ _).alloc (Nat.le_refl _) _)).2.2.1
  have hz60 : zeroM60.length = 60 := rfl
  go_enter Tryd.func82, Tryd.ntmps82
  go_wp2
  go_loopw [5] (fun _ wr => ∃ m : List Bool, Hid (MidS log m0 m) ∧ SetIn wr (w.heap.size + 1) m ∧ SetIn wr (w.heap.size + 2) zeroM60 ∧ TrIn w wr g log.length c Wn ∧ Below w.heap.size w wr) (fun _ wr => cntW wr (w.heap.size + 1) 60)
  case atStart => exact ⟨m0, MidS.refl _ _, s1, s2, T0, hB0⟩
  case round =>
    obtain ⟨m, HM, r1, r2, T, hBr⟩ := hrel
    have hG := grow_any g c Wn (log.map mvE) m r1.n wr (hE.below hBr) (by rw [List.length_map]; exact hl)
    rw [List.length_map] at hG
    have hgl : (grwP (log.map mvE) log.length m).length = 60 := by rw [grwP_len]; exact r1.n
    have HG : Hid (MidS log m (grwP (log.map mvE) log.length m)) := grwP_mid hL _ m
    have HFX : Hid (grwP (log.map mvE) log.length m = m → ClosedS log m) := fun h => fix_closed hL m r1.n hl (HM.out.inN hin) h
    generalize grwP (log.map mvE) log.length m = m' at *
    have hq := fun w => eqQ_dec w m' m hgl r1.n
    have hld := r1.loadQ
    have e0 := T.c0
    have e1 := T.c1
    have hgd := guardQ
    clear s1 s2 T0 hB0
    by_cases hmm : m' = m
    · subst hmm
      rw [decide_eq_true rfl] at hq
      have hC := HFX.out rfl
      clear HFX HG
      go_wp2_with (first | (go_at_call 86; refine hG.mono ?_; rintro e w2 ⟨rfl, hb2⟩; have hs2 := SetIn.new w2 hz60; have hst2 := storeQ_run hs2 hgl; have v2 := hs2.setRow hgl; have hld2 := v2.loadQ; have hb3 := below_setRow (hb2.alloc hb2.size (.cells (setC zeroM60) 156)) hb2.size (setC m'); have R1 := r1.below hb3; have hld3 := R1.loadQ; have R2 := r2.below hb3; have hst3 := storeQ_run R2 hgl; have hfin := R2.setRow hgl))
      exact bodyPost_ret (v := .agg (setC m')) (results_cell_row Tryd.results82 _ _ (w.heap.size + 2) _ _ _ _ rfl hfin.blk Tryd.underlying156 rfl (by rw [setC_size, hgl]; exact info60)) rfl ⟨m', rfl, below_setRow (hBr.trans (hb3.mono hBr.size)) (by omega) _, hgl, HM.out, hC⟩
    · rw [decide_eq_false hmm] at hq
      have hlt := cntF_lt m m' (by rw [hgl]; exact r1.n) HG.out.sub (fun h => hmm h.symm)
      have hc1 := cntW_eq wr (w.heap.size + 1) m (fun x b hx => r1.cell hx)
      rw [r1.n] at hc1
      go_wp2_with (first | (go_at_call 86; refine hG.mono ?_; rintro e w2 ⟨rfl, hb2⟩; have hs2 := SetIn.new w2 hz60; have hst2 := storeQ_run hs2 hgl; have v2 := hs2.setRow hgl; have hld2 := v2.loadQ; have hb3 := below_setRow (hb2.alloc hb2.size (.cells (setC zeroM60) 156)) hb2.size (setC m'); have R1 := r1.below hb3; have hld3 := R1.loadQ; have R2 := r2.below hb3; have hst3 := storeQ_run R1 hgl))
      go_roundw
      case rel => exact ⟨m', HM.out.trans HG.out, R1.setRow hgl, R2.rowOther (by omega) _, (T.below hb3).row (by omega) _, below_setRow (hBr.trans (hb3.mono hBr.size)) (by omega) _⟩
      case measure =>
        have hc2 := cntW_eq (((w2.alloc (.cells (setC zeroM60) 156)).setRow w2.heap.size (setC m')).setRow (w.heap.size + 1) (setC m')) (w.heap.size + 1) m' (fun x b hx => (R1.setRow hgl).cell hx)
        rw [hgl] at hc2
        omega
end Go.Proofs.YtdfndcbakcmgiabDoor
