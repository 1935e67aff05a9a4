import Derived.Test.YtfdbnilopfnifaaT28
namespace Go.Proofs.Ytfdbnilopfnifaa

/-- What was written last. -/
theorem last_write {α : Type} (f : Nat → α) (On : Nat → Prop) (v : Nat → α) : ∀ j : Nat, (∀ i, i < j → On i → f (i + 1) = v i) → (∀ i, i < j → ¬ On i → f (i + 1) = f i) →
    ((∀ i, i < j → ¬ On i) → f j = f 0) ∧ (∀ i, i < j → On i → (∀ i', i < i' → i' < j → ¬ On i') → f j = v i)
  | 0, _, _ => ⟨fun _ => rfl, fun i hi => absurd hi (Nat.not_lt_zero _)⟩
  | j + 1, h1, h2 => by
    obtain ⟨a, b⟩ := last_write f On v j (fun i hi => h1 i (by omega)) (fun i hi => h2 i (by omega))
    refine ⟨fun h => ?_, fun i hi ho hl => ?_⟩
    · rw [h2 j (by omega) (h j (by omega))]
      exact a (fun i hi => h i (by omega))
    · by_cases hij : i = j
      · subst hij; exact h1 i (by omega) ho
      · rw [h2 j (by omega) (hl j (by omega) (by omega))]
        exact b i (by omega) ho (fun i' h3 h4 => hl i' h3 (by omega))
theorem last_ex (On : Nat → Prop) : ∀ j : Nat, (∀ i, i < j → ¬ On i) ∨ ∃ i, i < j ∧ On i ∧ ∀ i', i < i' → i' < j → ¬ On i'
  | 0 => .inl fun i hi => absurd hi (Nat.not_lt_zero _)
  | j + 1 => by
    by_cases h : On j
    · exact .inr ⟨j, by omega, h, fun i' h1 h2 => by omega⟩
    · rcases last_ex On j with h1 | ⟨i, h1, h2, h3⟩
      · refine .inl fun i hi => ?_
        by_cases e : i = j
        · subst e; exact h
        · exact h1 i (by omega)
      · refine .inr ⟨i, by omega, h2, fun i' h4 h5 => ?_⟩
        by_cases e : i' = j
        · subst e; exact h
        · exact h3 i' h4 (by omega)
theorem first_ex (On : Nat → Prop) (a : Nat) : ∀ d b : Nat, b - a = d → (∀ i, a ≤ i → i < b → ¬ On i) ∨ ∃ c, a ≤ c ∧ c < b ∧ On c ∧ ∀ i, a ≤ i → i < c → ¬ On i := by
  intro d
  induction d with
  | zero => intro b hb; exact .inl fun i h1 h2 => by omega
  | succ d ih =>
    intro b hb
    rcases ih (b - 1) (by omega) with h | ⟨c, h1, h2, h3, h4⟩
    · by_cases ho : On (b - 1)
      · exact .inr ⟨b - 1, by omega, by omega, ho, h⟩
      · refine .inl fun i h1 h2 => ?_
        by_cases e : i = b - 1
        · subst e; exact ho
        · exact h i h1 (by omega)
    · exact .inr ⟨c, h1, by omega, h3, h4⟩

/-- The worlds along a run of N moves: the threads T, the instructions X. -/
structure Along (N : Nat) (T : Nat → Nat) (X : Nat → Stp) (ws : Nat → Wd) : Prop where
  inv : ∀ j, j ≤ N → (ws j).Inv
  prog : ∀ j, j ≤ N → (ws j).prog = (ws 0).prog
  lt : ∀ j, j < N → T j < (ws 0).prog.length
  st : ∀ j, j < N → stateOf (ws j) (T j) = 1
  next : ∀ j, j < N → ws (j + 1) = moveT (ws j) (T j)
  x : ∀ j n l d, j < N → At (ws j) (T j) n l d → stpOf d = X j
  has0 : ∀ k : Nat, k < 6 → (ws 0).has[k]? = some none
  set0 : ∀ k : Nat, k < 6 → (ws 0).set[k]? = some false
  born0 : ∀ u : Nat, u < (ws 0).prog.length → (ws 0).born[u]? = some (decide (u = 0))
  place0 : ∀ u : Nat, u < (ws 0).prog.length → (ws 0).place[u]? = some 0

theorem Along.at {N : Nat} {T : Nat → Nat} {X : Nat → Stp} {ws : Nat → Wd} (A : Along N T X ws) {j : Nat} (hj : j < N) : ∃ n l d, At (ws j) (T j) n l d ∧ stpOf d = X j ∧ Parts (ws j) (ws (j + 1)) (T j) n l (X j) ∧ Rdy (ws j) (T j) (X j) ∧ SOk (ws 0).prog.length (X j) := by
  have G := (A.inv j (by omega)).good
  have hs := A.st j hj
  have hp := A.prog j (by omega)
  obtain ⟨n, l, d, At', _⟩ := stateOf_at (ws j) (T j) (by omega) (by omega) G (by rw [hp]; exact A.lt j hj)
  have hx := A.x j n l d hj At'
  refine ⟨n, l, d, At', hx, ?_, ?_, ?_⟩
  · rw [A.next j hj, moveT_at At', ← hx]; exact moveW_parts G At' _
  · rw [← hx]; exact (rdy_iff G At').1 hs
  · rw [← hx, ← hp]; exact (stpOf_kd (G.dok _ l n d At'.prog At'.txt)).sok G.n5

/-- An event on lock k; on flag u; that starts u. -/
def OnL (X : Nat → Stp) (k i : Nat) : Prop := ((X i).kind = 1 ∨ (X i).kind = 2) ∧ (X i).which = k
def OnF (X : Nat → Stp) (u i : Nat) : Prop := ((X i).kind = 3 ∨ (X i).kind = 4) ∧ (X i).which = u
def OnB (X : Nat → Stp) (u i : Nat) : Prop := (X i).kind = 6 ∧ (X i).which = u

/-- A row of worlds in which some of the moves are done. -/
structure Part (j : Nat) (T : Nat → Nat) (X : Nat → Stp) (P : Nat → Prop) (vs : Nat → Wd) : Prop where
  yes : ∀ i, i < j → P i → ∃ n l, (vs i).place[T i]? = some n ∧ Parts (vs i) (vs (i + 1)) (T i) n l (X i) ∧ SOk (vs 0).prog.length (X i)
  no : ∀ i, i < j → ¬ P i → vs (i + 1) = vs i
  lh : ∀ i, i ≤ j → (vs i).has.length = 6
  ls : ∀ i, i ≤ j → (vs i).set.length = 6

theorem which_nat {n : Nat} {x : Stp} (h : SOk n x) : ∃ w : Nat, x.which = w ∧ w < 6 := ⟨x.which.toNat, by have := h.w0; omega, by have := h.wl; have := h.w0; omega⟩

theorem Part.hasBy {j : Nat} {T : Nat → Nat} {X : Nat → Stp} {P : Nat → Prop} {vs : Nat → Wd} (A : Part j T X P vs) (k : Nat) (hk : k < 6) :
    ((∀ i, i < j → ¬ (P i ∧ OnL X k i)) → (vs j).has[k]? = (vs 0).has[k]?) ∧ (∀ i, i < j → (P i ∧ OnL X k i) → (∀ i', i < i' → i' < j → ¬ (P i' ∧ OnL X k i')) → (vs j).has[k]? = some (if (X i).kind = 1 then some (T i) else none)) := by
  refine last_write (fun j => (vs j).has[k]?) (fun i => P i ∧ OnL X k i) (fun i => some (if (X i).kind = 1 then some (T i) else none)) j (fun i hi ⟨hp, ho⟩ => ?_) (fun i hi hn => ?_)
  · obtain ⟨n, l, _, hP, hS⟩ := A.yes i hi hp
    have hl := A.lh i (by omega)
    show (vs (i + 1)).has[k]? = _
    rw [hP.has, hasAfter]
    have hw : (X i).which.toNat = k := by have := ho.2; omega
    rcases ho.1 with h1 | h1
    · rw [if_pos h1, if_pos h1, hw, List.getElem?_set, if_pos rfl, if_pos (by omega)]
    · rw [if_neg (by omega), if_pos h1, if_neg (by omega), hw, List.getElem?_set, if_pos rfl, if_pos (by omega)]
  · by_cases hp : P i
    · obtain ⟨n, l, _, hP, hS⟩ := A.yes i hi hp
      have hno : ¬ OnL X k i := fun h => hn ⟨hp, h⟩
      obtain ⟨w, hw, _⟩ := which_nat hS
      show (vs (i + 1)).has[k]? = (vs i).has[k]?
      rw [hP.has, hasAfter]
      have hwk : ((X i).kind = 1 ∨ (X i).kind = 2) → (X i).which.toNat ≠ k := fun h e => hno ⟨h, by omega⟩
      split
      · rename_i h1
        rw [List.getElem?_set, if_neg (hwk (.inl h1))]
      · split
        · rename_i h2
          rw [List.getElem?_set, if_neg (hwk (.inr h2))]
        · rfl
    · show (vs (i + 1)).has[k]? = (vs i).has[k]?
      rw [A.no i hi hp]
theorem Part.setBy {j : Nat} {T : Nat → Nat} {X : Nat → Stp} {P : Nat → Prop} {vs : Nat → Wd} (A : Part j T X P vs) (k : Nat) (hk : k < 6) :
    ((∀ i, i < j → ¬ (P i ∧ OnF X k i)) → (vs j).set[k]? = (vs 0).set[k]?) ∧ (∀ i, i < j → (P i ∧ OnF X k i) → (∀ i', i < i' → i' < j → ¬ (P i' ∧ OnF X k i')) → (vs j).set[k]? = some (decide ((X i).kind = 3))) := by
  refine last_write (fun j => (vs j).set[k]?) (fun i => P i ∧ OnF X k i) (fun i => some (decide ((X i).kind = 3))) j (fun i hi ⟨hp, ho⟩ => ?_) (fun i hi hn => ?_)
  · obtain ⟨n, l, _, hP, hS⟩ := A.yes i hi hp
    have hl := A.ls i (by omega)
    show (vs (i + 1)).set[k]? = _
    rw [hP.set, setAfter]
    have hw : (X i).which.toNat = k := by have := ho.2; omega
    rcases ho.1 with h1 | h1
    · rw [if_pos h1, decide_eq_true h1, hw, List.getElem?_set, if_pos rfl, if_pos (by omega)]
    · rw [if_neg (by omega), if_pos h1, decide_eq_false (by omega), hw, List.getElem?_set, if_pos rfl, if_pos (by omega)]
  · by_cases hp : P i
    · obtain ⟨n, l, _, hP, hS⟩ := A.yes i hi hp
      have hno : ¬ OnF X k i := fun h => hn ⟨hp, h⟩
      obtain ⟨w, hw, _⟩ := which_nat hS
      show (vs (i + 1)).set[k]? = (vs i).set[k]?
      rw [hP.set, setAfter]
      have hwk : ((X i).kind = 3 ∨ (X i).kind = 4) → (X i).which.toNat ≠ k := fun h e => hno ⟨h, by omega⟩
      split
      · rename_i h1
        rw [List.getElem?_set, if_neg (hwk (.inl h1))]
      · split
        · rename_i h2
          rw [List.getElem?_set, if_neg (hwk (.inr h2))]
        · rfl
    · show (vs (i + 1)).set[k]? = (vs i).set[k]?
      rw [A.no i hi hp]
theorem Part.bornBy {j : Nat} {T : Nat → Nat} {X : Nat → Stp} {P : Nat → Prop} {vs : Nat → Wd} (A : Part j T X P vs) (u : Nat) (hl : ∀ i, i ≤ j → u < (vs i).born.length) :
    ((∀ i, i < j → ¬ (P i ∧ OnB X u i)) → (vs j).born[u]? = (vs 0).born[u]?) ∧ (∀ i, i < j → (P i ∧ OnB X u i) → (∀ i', i < i' → i' < j → ¬ (P i' ∧ OnB X u i')) → (vs j).born[u]? = some true) := by
  refine last_write (fun j => (vs j).born[u]?) (fun i => P i ∧ OnB X u i) (fun _ => some true) j (fun i hi ⟨hp, ho⟩ => ?_) (fun i hi hn => ?_)
  · obtain ⟨n, l, _, hP, hS⟩ := A.yes i hi hp
    have hl' := hl i (by omega)
    show (vs (i + 1)).born[u]? = _
    have hw : (X i).which.toNat = u := by have := ho.2; omega
    rw [hP.born, bornAfter, if_pos ho.1, hw, List.getElem?_set, if_pos rfl, if_pos hl']
  · by_cases hp : P i
    · obtain ⟨n, l, _, hP, hS⟩ := A.yes i hi hp
      have hno : ¬ OnB X u i := fun h => hn ⟨hp, h⟩
      obtain ⟨w, hw, _⟩ := which_nat hS
      show (vs (i + 1)).born[u]? = (vs i).born[u]?
      rw [hP.born, bornAfter]
      split
      · rename_i h1
        rw [List.getElem?_set, if_neg (fun e => hno ⟨h1, by omega⟩)]
      · rfl
    · show (vs (i + 1)).born[u]? = (vs i).born[u]?
      rw [A.no i hi hp]
end Go.Proofs.Ytfdbnilopfnifaa
namespace Go.Proofs.Ytfdbnilopfnifaa

/-- The worlds of the moves of a set alone. -/
def partW (W0 : Wd) (T : Nat → Nat) (S : Nat → Bool) : Nat → Wd
  | 0 => W0
  | j + 1 => if S j = true then moveT (partW W0 T S j) (T j) else partW W0 T S j

/-- A set of events that has what its events need. -/
structure ClosedN (N : Nat) (T : Nat → Nat) (X : Nat → Stp) (S : Nat → Bool) : Prop where
  own : ∀ i j, i < j → j < N → S j = true → T i = T j → S i = true
  born : ∀ i j, i < j → j < N → S j = true → OnB X (T j) i → S i = true
  joinT : ∀ i j, i < j → j < N → S j = true → (X j).kind = 7 → (X j).which = (T i : Nat) → S i = true
  joinB : ∀ i j, i < j → j < N → S j = true → (X j).kind = 7 → (X i).kind = 6 → (X i).which = (X j).which → S i = true
  flag : ∀ i j u, i < j → j < N → S j = true → (X j).kind = 5 → (X j).which = (u : Nat) → OnF X u i → (∀ i', i < i' → i' < j → ¬ OnF X u i') → S i = true
  give : ∀ i j c k, i < j → j < N → S j = true → S i = true → (X j).kind = 1 → (X j).which = (k : Nat) → (X i).kind = 1 → (X i).which = (k : Nat) → i < c → c < N → T c = T i → (X c).kind = 2 → (X c).which = (k : Nat) → (∀ g, i < g → g < c → ¬ (T g = T i ∧ (X g).kind = 2 ∧ (X g).which = (k : Nat))) → S c = true

theorem Along.part {N : Nat} {T : Nat → Nat} {X : Nat → Stp} {ws : Nat → Wd} (A : Along N T X ws) {j : Nat} (hj : j ≤ N) : Part j T X (fun _ => True) ws where
  yes := fun i hi _ => by
    obtain ⟨n, l, d, h1, h2, h3, h4, h5⟩ := A.at (j := i) (by omega)
    exact ⟨n, l, h1.place, h3, h5⟩
  no := fun i _ h => absurd trivial h
  lh := fun i hi => (A.inv i (by omega)).good.ok.nh
  ls := fun i hi => (A.inv i (by omega)).good.ok.ns

/-- Behind a take the next event on the lock is the giving back, by the same thread. -/
theorem Along.owner {N : Nat} {T : Nat → Nat} {X : Nat → Stp} {ws : Nat → Wd} (A : Along N T X ws) {i c k : Nat} (hk : k < 6) (hc : c < N) (hic : i < c) (h1 : (X i).kind = 1) (hw : (X i).which = (k : Nat)) (ho : OnL X k c) (hn : ∀ g, i < g → g < c → ¬ OnL X k g) : (X c).kind = 2 ∧ T c = T i := by
  obtain ⟨n, l, d, _, _, _, R, _⟩ := A.at hc
  have hh := ((A.part (j := c) (by omega)).hasBy k hk).2 i hic ⟨trivial, .inl h1, hw⟩ (fun i' h3 h4 h5 => hn i' h3 h4 h5.2)
  rw [if_pos h1] at hh
  have hwc : (X c).which.toNat = k := by have := ho.2; omega
  rcases ho.1 with h2 | h2
  · have := R.take h2
    rw [hwc, hh] at this
    cases this
  · have := R.give h2
    rw [hwc, hh] at this
    simp only [Option.getD_some, Option.some.injEq] at this
    exact ⟨h2, this.symm⟩

structure Sim (j : Nat) (T : Nat → Nat) (X : Nat → Stp) (S : Nat → Bool) (ws vs : Nat → Wd) : Prop where
  inv : ∀ i, i ≤ j → (vs i).Inv
  prog : ∀ i, i ≤ j → (vs i).prog = (ws 0).prog
  place : ∀ t, t < (ws 0).prog.length → (∀ i, i < j → T i = t → S i = true) → (vs j).place[t]? = (ws j).place[t]?
  part : Part j T X (fun i => S i = true) vs
  ready : ∀ i, i < j → S i = true → stateOf (vs i) (T i) = 1

theorem sim_at {N : Nat} {T : Nat → Nat} {X : Nat → Stp} {ws : Nat → Wd} (A : Along N T X ws) {S : Nat → Bool} (C : ClosedN N T X S) {vs : Nat → Wd} (h0 : vs 0 = ws 0) {j : Nat} (hj : j < N) (hS : S j = true) (M : Sim j T X S ws vs) {n : Nat} {l : List ByteArray} {d : ByteArray} (hA : At (ws j) (T j) n l d) (R : Rdy (ws j) (T j) (X j)) (hO : SOk (ws 0).prog.length (X j)) :
    At (vs j) (T j) n l d ∧ Rdy (vs j) (T j) (X j) := by
  have P := A.part (j := j) (by omega)
  have hlt := A.lt j hj
  obtain ⟨w, hw, hw6⟩ := which_nat hO
  have hwt : (X j).which.toNat = w := by omega
  -- who is born in the part is born in the whole, and all that need be
  have hbl : ∀ u, u < (ws 0).prog.length → (∀ i, i ≤ j → u < (ws i).born.length) ∧ (∀ i, i ≤ j → u < (vs i).born.length) := fun u hu =>
    ⟨fun i hi => by rw [(A.inv i (by omega)).good.ok.nb, A.prog i (by omega)]; exact hu, fun i hi => by rw [(M.inv i hi).good.ok.nb, M.prog i hi]; exact hu⟩
  have hborn : ∀ u, u < (ws 0).prog.length → (∀ i, i < j → OnB X u i → S i = true) → (vs j).born[u]? = (ws j).born[u]? := fun u hu hall => by
    obtain ⟨a1, a2⟩ := P.bornBy u (hbl u hu).1
    obtain ⟨b1, b2⟩ := M.part.bornBy u (hbl u hu).2
    rcases last_ex (fun i => OnB X u i) j with h | ⟨i, h1, h2, h3⟩
    · rw [a1 (fun i hi h4 => h i hi h4.2), b1 (fun i hi h4 => h i hi h4.2), h0]
    · rw [a2 i h1 ⟨trivial, h2⟩ (fun i' h4 h5 h6 => h3 i' h4 h5 h6.2), b2 i h1 ⟨hall i h1 h2, h2⟩ (fun i' h4 h5 h6 => h3 i' h4 h5 h6.2)]
  have hbsub : ∀ u, u < (ws 0).prog.length → (ws j).born[u]?.getD false = false → (vs j).born[u]?.getD false = false := fun u hu hb => by
    obtain ⟨a1, a2⟩ := P.bornBy u (hbl u hu).1
    obtain ⟨b1, b2⟩ := M.part.bornBy u (hbl u hu).2
    rcases last_ex (fun i => OnB X u i) j with h | ⟨i, h1, h2, h3⟩
    · rw [b1 (fun i hi h4 => h i hi h4.2), h0, ← a1 (fun i hi h4 => h i hi h4.2)]; exact hb
    · rw [a2 i h1 ⟨trivial, h2⟩ (fun i' h4 h5 h6 => h3 i' h4 h5 h6.2)] at hb
      simp at hb
  have hpl := M.place (T j) hlt (fun i hi e => C.own i j hi hj hS e)
  have hbo := hborn (T j) hlt (fun i hi ho => C.born i j hi hj hS ho)
  have hAt : At (vs j) (T j) n l d := ⟨by rw [hbo]; exact hA.born, by rw [hpl]; exact hA.place, by rw [M.prog j (Nat.le_refl _), ← A.prog j (by omega)]; exact hA.prog, hA.txt⟩
  refine ⟨hAt, ⟨fun h1 => ?_, fun h2 => ?_, fun h6 => ?_, fun h7 => ?_⟩⟩
  · -- a lock that is taken is free
    rw [hwt]
    have hfree := R.take h1
    rw [hwt] at hfree
    obtain ⟨b1, b2⟩ := M.part.hasBy w hw6
    obtain ⟨a1, a2⟩ := P.hasBy w hw6
    rcases last_ex (fun i => S i = true ∧ OnL X w i) j with h | ⟨i, hi, ⟨hSi, hoi⟩, hl⟩
    · rw [b1 h, h0, A.has0 w hw6]; rfl
    · rw [b2 i hi ⟨hSi, hoi⟩ hl]
      rcases hoi.1 with hk1 | hk2
      · exfalso
        rcases first_ex (fun g => OnL X w g) (i + 1) _ j rfl with hno | ⟨c, hc1, hc2, hc3, hc4⟩
        · rw [a2 i hi ⟨trivial, hoi⟩ (fun i' h3 h4 h5 => hno i' (by omega) h4 h5.2), if_pos hk1] at hfree
          simp at hfree
        · obtain ⟨hc5, hc6⟩ := A.owner hw6 (show c < N by omega) (show i < c by omega) hk1 hoi.2 hc3 (fun g h3 h4 => hc4 g (by omega) h4)
          have hSc := C.give i j c w hi hj hS hSi h1 hw hk1 hoi.2 (by omega) (by omega) hc6 hc5 hc3.2 (fun g h3 h4 h5 => hc4 g (by omega) h4 ⟨.inr h5.2.1, h5.2.2⟩)
          exact hl c (by omega) hc2 ⟨hSc, hc3⟩
      · rw [if_neg (by omega)]; rfl
  · -- a lock that is given back is had
    rw [hwt]
    have hhad := R.give h2
    rw [hwt] at hhad
    obtain ⟨b1, b2⟩ := M.part.hasBy w hw6
    obtain ⟨a1, a2⟩ := P.hasBy w hw6
    rcases last_ex (fun i => OnL X w i) j with h | ⟨i, hi, hoi, hl⟩
    · rw [a1 (fun i hi h4 => h i hi h4.2), A.has0 w hw6] at hhad
      simp at hhad
    · rw [a2 i hi ⟨trivial, hoi⟩ (fun i' h3 h4 h5 => hl i' h3 h4 h5.2)] at hhad
      simp only [Option.getD_some] at hhad
      split at hhad
      · rename_i hk1
        have hT : T i = T j := by simpa using hhad
        have hSi := C.own i j hi hj hS hT
        rw [b2 i hi ⟨hSi, hoi⟩ (fun i' h3 h4 h5 => hl i' h3 h4 h5.2), if_pos hk1, hT]
        rfl
      · cases hhad
  · -- who is started was not born
    rw [hwt]
    have := R.start h6
    rw [hwt] at this
    exact hbsub w (by have := hO.wt (.inl h6); omega) this
  · -- who is waited for has ended
    rw [hwt]
    have hover := R.join h7
    rw [hwt] at hover
    have hwn : w < (ws 0).prog.length := by have := hO.wt (.inr h7); omega
    have e1 := hborn w hwn (fun i hi ho => C.joinB i j hi hj hS h7 ho.1 (ho.2.trans hw.symm))
    have e2 := M.place w hwn (fun i hi e => C.joinT i j hi hj hS h7 (by rw [hw, e]))
    unfold overOf at hover ⊢
    rw [e1, e2, M.prog j (Nat.le_refl _), ← A.prog j (by omega)]
    exact hover

theorem sim_flag {N : Nat} {T : Nat → Nat} {X : Nat → Stp} {ws : Nat → Wd} (A : Along N T X ws) {S : Nat → Bool} (C : ClosedN N T X S) {vs : Nat → Wd} (h0 : vs 0 = ws 0) {j : Nat} (hj : j < N) (hS : S j = true) (M : Sim j T X S ws vs) (h5 : (X j).kind = 5) {w : Nat} (hw : (X j).which = w) (hw6 : w < 6) : (vs j).set[w]? = (ws j).set[w]? := by
  obtain ⟨a1, a2⟩ := (A.part (j := j) (by omega)).setBy w hw6
  obtain ⟨b1, b2⟩ := M.part.setBy w hw6
  rcases last_ex (fun i => OnF X w i) j with h | ⟨i, hi, hoi, hl⟩
  · rw [a1 (fun i hi h4 => h i hi h4.2), b1 (fun i hi h4 => h i hi h4.2), h0]
  · have hSi := C.flag i j w hi hj hS h5 hw hoi hl
    rw [a2 i hi ⟨trivial, hoi⟩ (fun i' h3 h4 h6 => hl i' h3 h4 h6.2), b2 i hi ⟨hSi, hoi⟩ (fun i' h3 h4 h6 => hl i' h3 h4 h6.2)]

/-- The moves of a closed set are a schedule: each thread does what it did. -/
theorem sim_all {N : Nat} {T : Nat → Nat} {X : Nat → Stp} {ws : Nat → Wd} (A : Along N T X ws) {S : Nat → Bool} (C : ClosedN N T X S) : ∀ j, j ≤ N → Sim j T X S ws (partW (ws 0) T S)
  | 0, _ => ⟨fun i hi => by
      have : i = 0 := by omega
      subst this
      exact A.inv 0 (by omega), fun i hi => by
      have : i = 0 := by omega
      subst this
      rfl, fun t _ _ => rfl, ⟨fun i hi => absurd hi (Nat.not_lt_zero _), fun i hi => absurd hi (Nat.not_lt_zero _), fun i hi => by
      have : i = 0 := by omega
      subst this
      exact (A.inv 0 (by omega)).good.ok.nh, fun i hi => by
      have : i = 0 := by omega
      subst this
      exact (A.inv 0 (by omega)).good.ok.ns⟩, fun i hi => absurd hi (Nat.not_lt_zero _)⟩
  | j + 1, hj => by
    have M := sim_all A C j (by omega)
    obtain ⟨n, l, d, hA, hx, hP, R, hO⟩ := A.at (j := j) (by omega)
    have hlt := A.lt j (by omega)
    by_cases hS : S j = true
    · obtain ⟨hA', R'⟩ := sim_at A C (vs := partW (ws 0) T S) rfl (show j < N by omega) hS M hA R hO
      have G' := (M.inv j (Nat.le_refl _)).good
      have hst : stateOf (partW (ws 0) T S j) (T j) = 1 := by rw [rdy_iff G' hA', hx]; exact R'
      have hnx : partW (ws 0) T S (j + 1) = moveT (partW (ws 0) T S j) (T j) := by rw [partW, if_pos hS]
      have hI : (partW (ws 0) T S (j + 1)).Inv := by
        rw [hnx]
        exact moveT_inv (M.inv j (Nat.le_refl _)) (by rw [M.prog j (Nat.le_refl _)]; exact hlt) hst
      have hpg : (partW (ws 0) T S (j + 1)).prog = (ws 0).prog := by rw [hnx, moveT_prog, M.prog j (Nat.le_refl _)]
      have hP' : Parts (partW (ws 0) T S j) (partW (ws 0) T S (j + 1)) (T j) n l (X j) := by rw [hnx, moveT_at hA', ← hx]; exact moveW_parts G' hA' _
      refine ⟨fun i hi => ?_, fun i hi => ?_, fun t ht hall => ?_, ⟨fun i hi hSi => ?_, fun i hi hSi => ?_, fun i hi => ?_, fun i hi => ?_⟩, fun i hi hSi => ?_⟩
      · by_cases e : i = j + 1
        · rw [e]; exact hI
        · exact M.inv i (by omega)
      · by_cases e : i = j + 1
        · rw [e]; exact hpg
        · exact M.prog i (by omega)
      · rw [hP'.place, hP.place]
        by_cases htj : t = T j
        · subst htj
          have l1 : T j < (partW (ws 0) T S j).place.length := by rw [G'.ok.nl, M.prog j (Nat.le_refl _)]; exact hlt
          have l2 : T j < (ws j).place.length := by rw [(A.inv j (by omega)).good.ok.nl, A.prog j (by omega)]; exact hlt
          rw [List.getElem?_set, List.getElem?_set, if_pos rfl, if_pos rfl, if_pos l1, if_pos l2]
          congr 1
          unfold placeAfter
          split
          · rename_i h5
            obtain ⟨w, hw, hw6⟩ := which_nat hO
            have hwt : (X j).which.toNat = w := by omega
            rw [hwt, sim_flag A C (vs := partW (ws 0) T S) rfl (show j < N by omega) hS M h5 hw hw6]
          · rfl
        · rw [List.getElem?_set, List.getElem?_set, if_neg (fun e => htj e.symm), if_neg (fun e => htj e.symm)]
          exact M.place t ht (fun i hi e => hall i (by omega) e)
      · by_cases e : i = j
        · subst e
          exact ⟨n, l, hA'.place, hP', hO⟩
        · exact M.part.yes i (by omega) hSi
      · by_cases e : i = j
        · subst e; exact absurd hS hSi
        · exact M.part.no i (by omega) hSi
      · by_cases e : i = j + 1
        · rw [e]; exact hI.good.ok.nh
        · exact M.part.lh i (by omega)
      · by_cases e : i = j + 1
        · rw [e]; exact hI.good.ok.ns
        · exact M.part.ls i (by omega)
      · by_cases e : i = j
        · subst e; exact hst
        · exact M.ready i (by omega) hSi
    · have hnx : partW (ws 0) T S (j + 1) = partW (ws 0) T S j := by rw [partW, if_neg hS]
      refine ⟨fun i hi => ?_, fun i hi => ?_, fun t ht hall => ?_, ⟨fun i hi hSi => ?_, fun i hi hSi => ?_, fun i hi => ?_, fun i hi => ?_⟩, fun i hi hSi => ?_⟩
      · by_cases e : i = j + 1
        · rw [e, hnx]; exact M.inv j (Nat.le_refl _)
        · exact M.inv i (by omega)
      · by_cases e : i = j + 1
        · rw [e, hnx]; exact M.prog j (Nat.le_refl _)
        · exact M.prog i (by omega)
      · have htj : t ≠ T j := fun e => hS (hall j (by omega) e.symm)
        rw [hnx, hP.place, List.getElem?_set, if_neg (fun e => htj e.symm)]
        exact M.place t ht (fun i hi e => hall i (by omega) e)
      · by_cases e : i = j
        · subst e; exact absurd hSi hS
        · exact M.part.yes i (by omega) hSi
      · by_cases e : i = j
        · subst e; exact hnx
        · exact M.part.no i (by omega) hSi
      · by_cases e : i = j + 1
        · rw [e, hnx]; exact M.part.lh j (Nat.le_refl _)
        · exact M.part.lh i (by omega)
      · by_cases e : i = j + 1
        · rw [e, hnx]; exact M.part.ls j (Nat.le_refl _)
        · exact M.part.ls i (by omega)
      · by_cases e : i = j
        · subst e; exact absurd hSi hS
        · exact M.ready i (by omega) hSi
end Go.Proofs.Ytfdbnilopfnifaa
