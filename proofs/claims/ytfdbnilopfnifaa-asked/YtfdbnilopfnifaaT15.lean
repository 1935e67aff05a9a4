import Derived.Test.YtfdbnilopfnifaaT14
namespace Go.Proofs.Ytfdbnilopfnifaa
open Go.RowKit
attribute [local go_sem ↓] loadQ_fold storeQ_fold zeroQ_fold eqQ_fold

abbrev trBox (w : World) (g n c : Nat) (Wn : Value) : World := w.alloc (.cells #[.slice (some ⟨g, 0, none⟩) n c, Wn] 104)
abbrev qBox (w : World) (m : List Bool) : World := w.alloc (.cells (setC m) 145)
/-- A trace in its box, and two sets in theirs. -/
structure TrIn (w wr : World) (g n c : Nat) (Wn : Value) : Prop where
  c0 : wr.cell? ⟨w.heap.size, 0, none⟩ = some (.slice (some ⟨g, 0, none⟩) n c)
  c1 : wr.cell? ⟨w.heap.size, 1, none⟩ = some Wn
theorem TrIn.below {w wr w' : World} {g n c : Nat} {Wn : Value} (h : TrIn w wr g n c Wn) (hb : Below wr.heap.size wr w') : TrIn w w' g n c Wn := ⟨cell_later hb h.c0, cell_later hb h.c1⟩
theorem TrIn.row {w wr : World} {g n c k : Nat} {Wn : Value} (h : TrIn w wr g n c Wn) (hk : w.heap.size ≠ k) (cs : Array Value) : TrIn w (wr.setRow k cs) g n c Wn :=
  ⟨by rw [cell_setRow_other _ _ _ _ hk]; exact h.c0, by rw [cell_setRow_other _ _ _ _ hk]; exact h.c1⟩
theorem TrIn.put {w wr : World} {g n c : Nat} {Wn : Value} (h : TrIn w wr g n c Wn) {p : Addr} (hp : w.heap.size ≠ p.block) (u : Value) : TrIn w (wr.setCell p u) g n c Wn :=
  ⟨by rw [cell_put_other _ hp]; exact h.c0, by rw [cell_put_other _ hp]; exact h.c1⟩
theorem TrIn.new (w : World) (g n c : Nat) (Wn : Value) : TrIn w (trBox w g n c Wn) g n c Wn := ⟨cellB (heap_alloc_new _ _) rfl, cellB (heap_alloc_new _ _) rfl⟩

set_option maxRecDepth 100000 in
set_option maxHeartbeats 4000000 in
theorem grow_any (g c : Nat) (Wn : Value) (l : List Mv) (m : List Bool) (hm : m.length = 60) (w : World) (hE : MvsAt w g l) (hl : l.length ≤ 60) :
    Calls Try.prog 114 #[.agg #[.slice (some ⟨g, 0, none⟩) l.length c, Wn], .agg (setC m)] w fun e w' => e = .returned (.agg (setC (grwP l l.length m))) ∧ Below w.heap.size w w' := by
  have hb0 : Below w.heap.size w (trBox w g l.length c Wn) := (Below.refl _ _).alloc (Nat.le_refl _) _
  have s1 : SetIn (qBox (qBox (trBox w g l.length c Wn) m) zeroM60) (w.heap.size + 1) m := SetIn.old ⟨heap_alloc2_new _ _ _, hm⟩ _
  have s2 : SetIn (qBox (qBox (trBox w g l.length c Wn) m) zeroM60) (w.heap.size + 2) zeroM60 := ⟨by simpa using heap_alloc_new (qBox (trBox w g l.length c Wn) m) (.cells (setC zeroM60) 145), rfl⟩
  have T0 : TrIn w (qBox (qBox (trBox w g l.length c Wn) m) zeroM60) g l.length c Wn := ((TrIn.new w g l.length c Wn).below ((Below.refl _ _).alloc (Nat.le_refl _) _)).below ((Below.refl _ _).alloc (Nat.le_refl _) _)
  have hB0 : Below w.heap.size w (qBox (qBox (trBox w g l.length c Wn) m) zeroM60) := (two_new ((Below.refl _ _).alloc (Nat.le_refl _) _)).2.2.1
  have q0 := T0.c0
  generalize hres : grwP l l.length m = res
  have HR : Hid (grwP l l.length m = res) := hres
  clear hres
  go_enter Try.func114, Try.ntmps114
  go_wp2
  go_loopw [5] (fun x wr => ∃ (k : Nat) (m : List Bool), k ≤ l.length ∧ x = .int .i64 ((k : Int) - 1) ∧ Hid (grwP l k m = res) ∧ SetIn wr (w.heap.size + 1) m ∧ SetIn wr (w.heap.size + 2) zeroM60 ∧ TrIn w wr g l.length c Wn ∧ Below w.heap.size w wr) (fun x _ => (intOf x + 1).toNat)
  case atStart => exact ⟨l.length, m, Nat.le_refl _, rfl, HR, s1, s2, T0, hB0⟩
  case round =>
    obtain ⟨k, m, hk, rfl, HE, r1, r2, T, hBr⟩ := hrel
    clear HR s1 s2 T0 hB0 hb0 q0
    cases k with
    | zero =>
      have hres : res = m := by have h := HE.out; rw [grwP] at h; exact h.symm
      subst hres
      have hld := r1.loadQ
      have hst := storeQ_run r2 r1.n
      have hfin := r2.setRow r1.n
      clear HE
      go_wp2
      exact bodyPost_ret (v := .agg (setC res)) (results_cell_row Try.results114 _ _ (w.heap.size + 2) _ _ _ _ rfl hfin.blk Try.underlying145 rfl (by rw [setC_size, r1.n]; exact info60)) rfl ⟨rfl, below_setRow hBr (by omega) _⟩
    | succ k =>
      have hz : (((k + 1 : Nat) : Int) - 1) = (k : Int) := by omega
      rw [hz]
      have hkl : k < l.length := by omega
      obtain ⟨b, hb⟩ : ∃ b, l[k]? = some b := ⟨l[k], by simp [hkl]⟩
      obtain ⟨q, hq⟩ : ∃ q, m[k]? = some q := ⟨m[k]'(by rw [r1.n]; omega), by simp⟩
      have HE1 : Hid (grwP l k (if q = true then addG l b k (addF l b k (addL (ldL l) k 0 m)) else m) = res) := by
        have h := HE.out
        rw [grwP, stepP, hb] at h
        simp only [hq, Option.getD_some] at h
        exact h
      have cq := r1.cell hq
      have k0 : (0 : Int) ≤ (k : Int) := by omega
      have k60 : (k : Int) < 60 := by omega
      clear HE hq
      cases q with
      | false =>
        have HN : Hid (grwP l k m = res) := by have h := HE1.out; exact h
        clear HE1
        go_wp2
        go_roundw
        case rel => exact ⟨k, m, by omega, rfl, HN, r1, r2, T, hBr⟩
        case measure => (simp [intOf] <;> omega)
      | true =>
        have HN : Hid (grwP l k (addG l b k (addF l b k (addL (ldL l) k 0 m))) = res) := by have h := HE1.out; exact h
        have hEr := hE.below hBr
        have hA := addLeading_any g c Wn l m r1.n wr hEr k hkl hl _ rfl
        have n1 : (addL (ldL l) k 0 m).length = 60 := by rw [addL_len _ _ _ _ _ rfl]; exact r1.n
        generalize addL (ldL l) k 0 m = m1 at *
        have hF := fun w' (h : MvsAt w' g l) => addFlagChange_any g c Wn l m1 n1 w' h k b hb hl _ rfl
        have n2 : (addF l b k m1).length = 60 := by rw [addF_len]; exact n1
        generalize addF l b k m1 = m2 at *
        have hG := fun w' (h : MvsAt w' g l) => addGives_any g c Wn l m2 n2 w' h k b hb hl _ rfl
        have n3 : (addG l b k m2).length = 60 := by rw [addG_len]; exact n2
        generalize addG l b k m2 = m3 at *
        have hld := r1.loadQ
        have e0 := T.c0
        have e1 := T.c1
        clear HE1 hb
        -- the worlds behind each store
        go_wp2_with (first
          | (go_at_call 113; refine hA.mono ?_; rintro e w2 ⟨rfl, hb2⟩; have u1 := r1.below hb2; have hst1 := storeQ_run u1 n1; have v1 := u1.setRow n1; have hldv := v1.loadQ; have T2 := (T.below hb2).row (show w.heap.size ≠ w.heap.size + 1 by omega) (setC m1); have f0 := T2.c0; have f1 := T2.c1; have R2 := (r2.below hb2).rowOther (show w.heap.size + 2 ≠ w.heap.size + 1 by omega) (setC m1); have B2 := below_setRow (hBr.trans (hb2.mono hBr.size)) (show w.heap.size ≤ w.heap.size + 1 by omega) (setC m1))
          | (go_at_call 126; refine (hF _ (hE.below B2)).mono ?_; rintro e w3 ⟨rfl, hb3⟩; have u3 := v1.below hb3; have hst3 := storeQ_run u3 n2; have v3 := u3.setRow n2; have hld3 := v3.loadQ; have T3 := (T2.below hb3).row (show w.heap.size ≠ w.heap.size + 1 by omega) (setC m2); have h0 := T3.c0; have h1 := T3.c1; have R3 := (R2.below hb3).rowOther (show w.heap.size + 2 ≠ w.heap.size + 1 by omega) (setC m2); have B3 := below_setRow (B2.trans (hb3.mono B2.size)) (show w.heap.size ≤ w.heap.size + 1 by omega) (setC m2))
          | (go_at_call 127; refine (hG _ (hE.below B3)).mono ?_; rintro e w4 ⟨rfl, hb4⟩; have u4 := v3.below hb4; have hst4 := storeQ_run u4 n3))
        go_roundw
        case rel => exact ⟨k, m3, by omega, rfl, HN, u4.setRow n3, (R3.below hb4).rowOther (by omega) _, (T3.below hb4).row (by omega) _, below_setRow (B3.trans (hb4.mono B3.size)) (by omega) _⟩
        case measure => (simp [intOf] <;> omega)

/-! Closing a set until it does not grow. -/
theorem full_closed (log : List Ev) : ClosedS log (List.replicate log.length true) := by
  intro j hj i hn
  have hjl : j < log.length := by have := (List.getElem?_eq_some_iff.1 hj).1; simpa using this
  have hi : i < log.length := by
    cases hn with
    | ahead h1 _ => omega
    | flag b u _ _ _ hf =>
      rcases flagL_lt log u j with h | ⟨x, h, hx⟩
      · omega
      · omega
    | give b a u k _ _ _ _ _ _ _ _ hg =>
      rcases givenL_lt log a.thread u _ (k + 1) rfl with h | ⟨x, h, hx⟩
      · omega
      · omega
  rw [List.getElem?_replicate, if_pos hi]
def InN (n : Nat) (m : List Bool) : Prop := ∀ j : Nat, m[j]? = some true → j < n
theorem MidS.inN {log : List Ev} {a b : List Bool} (h : MidS log a b) (ha : InN log.length a) : InN log.length b := fun j hj => by
  have := h.least _ (full_closed log) (fun i hi => by rw [List.getElem?_replicate, if_pos (ha i hi)]) j hj
  have := (List.getElem?_eq_some_iff.1 this).1
  simpa using this
theorem cntF_sub : ∀ (a b : List Bool), a.length = b.length → Sub a b → cntF b ≤ cntF a
  | [], [], _, _ => Nat.le_refl _
  | [], _ :: _, h, _ => by simp at h
  | _ :: _, [], h, _ => by simp at h
  | x :: a, y :: b, h, hs => by
    have ih := cntF_sub a b (by simpa using h) (fun i hi => by have := hs (i + 1) (by simpa using hi); simpa using this)
    have h0 := hs 0
    cases x <;> cases y <;> simp [cntF] at ih h0 ⊢ <;> omega
theorem cntF_lt : ∀ (a b : List Bool), a.length = b.length → Sub a b → a ≠ b → cntF b < cntF a
  | [], [], _, _, h => absurd rfl h
  | [], _ :: _, h, _, _ => by simp at h
  | _ :: _, [], h, _, _ => by simp at h
  | x :: a, y :: b, h, hs, hne => by
    have hs' : Sub a b := fun i hi => by have := hs (i + 1) (by simpa using hi); simpa using this
    have hl : a.length = b.length := by simpa using h
    have h1 := cntF_sub a b hl hs'
    have h0 := hs 0
    by_cases hab : a = b
    · subst hab
      cases x <;> cases y <;> simp [cntF] at h0 hne ⊢
    · have ih := cntF_lt a b hl hs' hab
      cases x <;> cases y <;> simp [cntF] at h0 ih ⊢ <;> omega

theorem eqQ_dec (w : World) (a b : List Bool) (ha : a.length = 60) (hb : b.length = 60) : (eqQ (.agg (setC a)) (.agg (setC b))).run Try.prog w = .ok (.bool (decide (a = b))) w := by
  obtain ⟨r, hr, hiff⟩ := eqQ_run w a b ha hb
  have : r = decide (a = b) := by
    rw [Bool.eq_iff_iff, hiff, decide_eq_true_iff]
  rw [← this]; exact hr

set_option maxRecDepth 100000 in
set_option maxHeartbeats 4000000 in
theorem closure_any (g c : Nat) (Wn : Value) {n : Nat} (log : List Ev) (hL : ∀ v ∈ log, EvOk n v) (m0 : List Bool) (hm : m0.length = 60) (hin : InN log.length m0) (w : World) (hE : MvsAt w g (log.map mvE)) (hl : log.length ≤ 60) :
    Calls Try.prog 93 #[.agg #[.slice (some ⟨g, 0, none⟩) log.length c, Wn], .agg (setC m0)] w fun e w' => ∃ m, e = .returned (.agg (setC m)) ∧ Below w.heap.size w w' ∧ m.length = 60 ∧ MidS log m0 m ∧ ClosedS log m := by
  have s1 : SetIn (qBox (qBox (trBox w g log.length c Wn) m0) zeroM60) (w.heap.size + 1) m0 := SetIn.old ⟨heap_alloc2_new _ _ _, hm⟩ _
  have s2 : SetIn (qBox (qBox (trBox w g log.length c Wn) m0) zeroM60) (w.heap.size + 2) zeroM60 := ⟨by simpa using heap_alloc_new (qBox (trBox w g log.length c Wn) m0) (.cells (setC zeroM60) 145), rfl⟩
  have T0 : TrIn w (qBox (qBox (trBox w g log.length c Wn) m0) zeroM60) g log.length c Wn := ((TrIn.new w g log.length c Wn).below ((Below.refl _ _).alloc (Nat.le_refl _) _)).below ((Below.refl _ _).alloc (Nat.le_refl _) _)
  have hB0 : Below w.heap.size w (qBox (qBox (trBox w g log.length c Wn) m0) zeroM60) := (two_new ((Below.refl _ _).alloc (Nat.le_refl _) _)).2.2.1
  have hz60 : zeroM60.length = 60 := rfl
  go_enter Try.func93, Try.ntmps93
  go_wp2
  go_loopw [5] (fun _ wr => ∃ m : List Bool, Hid (MidS log m0 m) ∧ SetIn wr (w.heap.size + 1) m ∧ SetIn wr (w.heap.size + 2) zeroM60 ∧ TrIn w wr g log.length c Wn ∧ Below w.heap.size w wr) (fun _ wr => cntW wr (w.heap.size + 1) 60)
  case atStart => exact ⟨m0, MidS.refl _ _, s1, s2, T0, hB0⟩
  case round =>
    obtain ⟨m, HM, r1, r2, T, hBr⟩ := hrel
    have hG := grow_any g c Wn (log.map mvE) m r1.n wr (hE.below hBr) (by rw [List.length_map]; exact hl)
    rw [List.length_map] at hG
    have hgl : (grwP (log.map mvE) log.length m).length = 60 := by rw [grwP_len]; exact r1.n
    have HG : Hid (MidS log m (grwP (log.map mvE) log.length m)) := grwP_mid hL _ m
    have HFX : Hid (grwP (log.map mvE) log.length m = m → ClosedS log m) := fun h => fix_closed hL m r1.n hl (HM.out.inN hin) h
    generalize grwP (log.map mvE) log.length m = m' at *
    have hq := fun w => eqQ_dec w m' m hgl r1.n
    have hld := r1.loadQ
    have e0 := T.c0
    have e1 := T.c1
    have hgd := guardQ
    clear s1 s2 T0 hB0
    by_cases hmm : m' = m
    · subst hmm
      rw [decide_eq_true rfl] at hq
      have hC := HFX.out rfl
      clear HFX HG
      go_wp2_with (first | (go_at_call 114; refine hG.mono ?_; rintro e w2 ⟨rfl, hb2⟩; have hs2 := SetIn.new w2 hz60; have hst2 := storeQ_run hs2 hgl; have v2 := hs2.setRow hgl; have hld2 := v2.loadQ; have hb3 := below_setRow (hb2.alloc hb2.size (.cells (setC zeroM60) 145)) hb2.size (setC m'); have R1 := r1.below hb3; have hld3 := R1.loadQ; have R2 := r2.below hb3; have hst3 := storeQ_run R2 hgl; have hfin := R2.setRow hgl))
      exact bodyPost_ret (v := .agg (setC m')) (results_cell_row Try.results93 _ _ (w.heap.size + 2) _ _ _ _ rfl hfin.blk Try.underlying145 rfl (by rw [setC_size, hgl]; exact info60)) rfl ⟨m', rfl, below_setRow (hBr.trans (hb3.mono hBr.size)) (by omega) _, hgl, HM.out, hC⟩
    · rw [decide_eq_false hmm] at hq
      have hlt := cntF_lt m m' (by rw [hgl]; exact r1.n) HG.out.sub (fun h => hmm h.symm)
      have hc1 := cntW_eq wr (w.heap.size + 1) m (fun x b hx => r1.cell hx)
      rw [r1.n] at hc1
      go_wp2_with (first | (go_at_call 114; refine hG.mono ?_; rintro e w2 ⟨rfl, hb2⟩; have hs2 := SetIn.new w2 hz60; have hst2 := storeQ_run hs2 hgl; have v2 := hs2.setRow hgl; have hld2 := v2.loadQ; have hb3 := below_setRow (hb2.alloc hb2.size (.cells (setC zeroM60) 145)) hb2.size (setC m'); have R1 := r1.below hb3; have hld3 := R1.loadQ; have R2 := r2.below hb3; have hst3 := storeQ_run R1 hgl))
      go_roundw
      case rel => exact ⟨m', HM.out.trans HG.out, R1.setRow hgl, R2.rowOther (by omega) _, (T.below hb3).row (by omega) _, below_setRow (hBr.trans (hb3.mono hBr.size)) (by omega) _⟩
      case measure =>
        have hc2 := cntW_eq (((w2.alloc (.cells (setC zeroM60) 145)).setRow w2.heap.size (setC m')).setRow (w.heap.size + 1) (setC m')) (w.heap.size + 1) m' (fun x b hx => (R1.setRow hgl).cell hx)
        rw [hgl] at hc2
        omega
end Go.Proofs.Ytfdbnilopfnifaa
