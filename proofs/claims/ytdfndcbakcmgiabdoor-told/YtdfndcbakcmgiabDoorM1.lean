import Derived.Test.YtdfndcbakcmgiabDoorT5
import Derived.Test.YtdfndcbakcmgiabDoorS2
namespace Go.Proofs.YtdfndcbakcmgiabDoor

/-! A move, part by part; and when a thread may move. -/
def hasAfter (has : List (Option Nat)) (x : Stp) (t : Nat) : List (Option Nat) :=
  if x.kind = 1 then has.set x.which.toNat (some t) else if x.kind = 2 then has.set x.which.toNat none else has
def setAfter (fl : List Bool) (x : Stp) : List Bool :=
  if x.kind = 3 then fl.set x.which.toNat true else if x.kind = 4 then fl.set x.which.toNat false else fl
def bornAfter (born : List Bool) (x : Stp) : List Bool := if x.kind = 6 then born.set x.which.toNat true else born
def placeAfter (fl : List Bool) (x : Stp) (n len : Nat) : Nat :=
  if x.kind = 5 then (if fl[x.which.toNat]? = some true then min (n + 1 + x.count.toNat) len else n + 1) else n + 1

structure Parts (W V : Wd) (t n : Nat) (l : List ByteArray) (x : Stp) : Prop where
  has : V.has = hasAfter W.has x t
  set : V.set = setAfter W.set x
  born : V.born = bornAfter W.born x
  place : V.place = W.place.set t (placeAfter W.set x n l.length)

theorem moveW_parts {W : Wd} (G : W.Good) {t n : Nat} {l : List ByteArray} {d : ByteArray} (A : At W t n l d) (hs : ByteArray) : Parts W (moveW W t n l d hs) t n l (stpOf d) := by
  have hk := stpOf_kd (G.dok t l n d A.prog A.txt)
  generalize stpOf d = x at hk
  cases hk with
  | dot h => constructor <;> simp [moveW, h, stepped, hasAfter, setAfter, bornAfter, placeAfter]
  | take k hk6 h =>
    have hc : 97 ≤ byteI d 0 ∧ byteI d 0 ≤ 102 := by omega
    have hk' : (byteI d 0 - 97).toNat = k := by omega
    rw [moveW, if_pos hc, hk']
    constructor <;> simp [stepped, hasAfter, setAfter, bornAfter, placeAfter]
  | give k hk6 h =>
    have hc : ¬ (97 ≤ byteI d 0 ∧ byteI d 0 ≤ 102) := by omega
    have hc2 : 65 ≤ byteI d 0 ∧ byteI d 0 ≤ 70 := by omega
    have hk' : (byteI d 0 - 65).toNat = k := by omega
    rw [moveW, if_neg hc, if_pos hc2, hk']
    constructor <;> simp [stepped, hasAfter, setAfter, bornAfter, placeAfter]
  | set k hk6 h h1 =>
    have hk' : (byteI d 1 - 117).toNat = k := by omega
    constructor <;> simp [moveW, h, stepped, hk', hasAfter, setAfter, bornAfter, placeAfter]
  | clear k hk6 h h1 =>
    have hk' : (byteI d 1 - 117).toNat = k := by omega
    constructor <;> simp [moveW, h, stepped, hk', hasAfter, setAfter, bornAfter, placeAfter]
  | skip k q hk6 hq h h1 h2 =>
    have hk' : (byteI d 1 - 117).toNat = k := by omega
    have hq' : (byteI d 2 - 48).toNat = q := by omega
    obtain ⟨o, ho⟩ := get_some W.set k (by rw [G.ok.ns]; exact hk6)
    constructor <;> cases o <;> simp [moveW, h, stepped, hk', hq', ho, hasAfter, setAfter, bornAfter, placeAfter]
  | start u hu h h1 =>
    have hu' : (byteI d 1 - 48).toNat = u := by omega
    constructor <;> simp [moveW, h, stepped, hu', hasAfter, setAfter, bornAfter, placeAfter]
  | join u hu h h1 => constructor <;> simp [moveW, h, stepped, hasAfter, setAfter, bornAfter, placeAfter]

/-- May thread t do x? -/
structure Rdy (W : Wd) (t : Nat) (x : Stp) : Prop where
  take : x.kind = 1 → W.has[x.which.toNat]?.getD none = none
  give : x.kind = 2 → W.has[x.which.toNat]?.getD none = some t
  start : x.kind = 6 → W.born[x.which.toNat]?.getD false = false
  join : x.kind = 7 → overOf W x.which.toNat = true
theorem rdy_iff {W : Wd} (G : W.Good) {t n : Nat} {l : List ByteArray} {d : ByteArray} (A : At W t n l d) : stateOf W t = 1 ↔ Rdy W t (stpOf d) := by
  have hk := stpOf_kd (G.dok t l n d A.prog A.txt)
  have hs : stateOf W t = doSt W t d := by simp [stateOf, A.born, A.place, A.prog, A.txt]
  rw [hs]
  generalize stpOf d = x at hk
  cases hk with
  | dot h =>
    constructor
    · intro _; constructor <;> simp
    · intro _; simp [doSt, h]
  | take k hk6 h =>
    have hc : 97 ≤ byteI d 0 ∧ byteI d 0 ≤ 102 := by omega
    have hk' : (byteI d 0 - 97).toNat = k := by omega
    rw [doSt, if_pos hc, hk']
    constructor
    · intro h1
      refine ⟨fun _ => ?_, by simp, by simp, by simp⟩
      simp only [Int.toNat_natCast]
      cases ho : W.has[k]?.getD none with
      | none => rfl
      | some u => rw [ho] at h1; by_cases hu : u = t <;> simp [lockSt, hu] at h1
    · intro R
      have := R.take rfl
      simp only [Int.toNat_natCast] at this
      rw [this]; simp [lockSt]
  | give k hk6 h =>
    have hc : ¬ (97 ≤ byteI d 0 ∧ byteI d 0 ≤ 102) := by omega
    have hc2 : 65 ≤ byteI d 0 ∧ byteI d 0 ≤ 70 := by omega
    have hk' : (byteI d 0 - 65).toNat = k := by omega
    rw [doSt, if_neg hc, if_pos hc2, hk']
    constructor
    · intro h1
      refine ⟨by simp, fun _ => ?_, by simp, by simp⟩
      simp only [Int.toNat_natCast]
      by_cases ho : W.has[k]?.getD none = some t
      · exact ho
      · rw [if_neg ho] at h1; simp at h1
    · intro R
      have := R.give rfl
      simp only [Int.toNat_natCast] at this
      rw [if_pos this]
  | set k hk6 h h1 =>
    constructor
    · intro _; constructor <;> simp
    · intro _; simp [doSt, h]
  | clear k hk6 h h1 =>
    constructor
    · intro _; constructor <;> simp
    · intro _; simp [doSt, h]
  | skip k q hk6 hq h h1 h2 =>
    constructor
    · intro _; constructor <;> simp
    · intro _; simp [doSt, h]
  | start u hu h h1 =>
    have hu' : (byteI d 1 - 48).toNat = u := by omega
    constructor
    · intro h2
      refine ⟨by simp, by simp, fun _ => ?_, by simp⟩
      simp only [Int.toNat_natCast]
      by_cases ho : W.born[u]?.getD false = true
      · simp [doSt, h, hu', ho] at h2
      · simpa using ho
    · intro R
      have := R.start rfl
      simp only [Int.toNat_natCast] at this
      simp [doSt, h, hu', this]
  | join u hu h h1 =>
    have hu' : (byteI d 1 - 48).toNat = u := by omega
    constructor
    · intro h2
      refine ⟨by simp, by simp, by simp, fun _ => ?_⟩
      simp only [Int.toNat_natCast]
      by_cases ho : overOf W u = true
      · exact ho
      · simp [doSt, h, hu', ho] at h2
    · intro R
      have := R.join rfl
      simp only [Int.toNat_natCast] at this
      simp [doSt, h, hu', this]
end Go.Proofs.YtdfndcbakcmgiabDoor
namespace Go.Proofs.YtdfndcbakcmgiabDoor

/-- What was written last. -/
theorem last_write {α : Type} (f : Nat → α) (On : Nat → Prop) (v : Nat → α) : ∀ j : Nat, (∀ i, i < j → On i → f (i + 1) = v i) → (∀ i, i < j → ¬ On i → f (i + 1) = f i) →
    ((∀ i, i < j → ¬ On i) → f j = f 0) ∧ (∀ i, i < j → On i → (∀ i', i < i' → i' < j → ¬ On i') → f j = v i)
  | 0, _, _ => ⟨fun _ => rfl, fun i hi => absurd hi (Nat.not_lt_zero _)⟩
  | j + 1, h1, h2 => by
    obtain ⟨a, b⟩ := last_write f On v j (fun i hi => h1 i (by omega)) (fun i hi => h2 i (by omega))
    refine ⟨fun h => ?_, fun i hi ho hl => ?_⟩
    · rw [h2 j (by omega) (h j (by omega))]
      exact a (fun i hi => h i (by omega))
    · by_cases hij : i = j
      · subst hij; exact h1 i (by omega) ho
      · rw [h2 j (by omega) (hl j (by omega) (by omega))]
        exact b i (by omega) ho (fun i' h3 h4 => hl i' h3 (by omega))
theorem last_ex (On : Nat → Prop) : ∀ j : Nat, (∀ i, i < j → ¬ On i) ∨ ∃ i, i < j ∧ On i ∧ ∀ i', i < i' → i' < j → ¬ On i'
  | 0 => .inl fun i hi => absurd hi (Nat.not_lt_zero _)
  | j + 1 => by
    by_cases h : On j
    · exact .inr ⟨j, by omega, h, fun i' h1 h2 => by omega⟩
    · rcases last_ex On j with h1 | ⟨i, h1, h2, h3⟩
      · refine .inl fun i hi => ?_
        by_cases e : i = j
        · subst e; exact h
        · exact h1 i (by omega)
      · refine .inr ⟨i, by omega, h2, fun i' h4 h5 => ?_⟩
        by_cases e : i' = j
        · subst e; exact h
        · exact h3 i' h4 (by omega)
theorem first_ex (On : Nat → Prop) (a : Nat) : ∀ d b : Nat, b - a = d → (∀ i, a ≤ i → i < b → ¬ On i) ∨ ∃ c, a ≤ c ∧ c < b ∧ On c ∧ ∀ i, a ≤ i → i < c → ¬ On i := by
  intro d
  induction d with
  | zero => intro b hb; exact .inl fun i h1 h2 => by omega
  | succ d ih =>
    intro b hb
    rcases ih (b - 1) (by omega) with h | ⟨c, h1, h2, h3, h4⟩
    · by_cases ho : On (b - 1)
      · exact .inr ⟨b - 1, by omega, by omega, ho, h⟩
      · refine .inl fun i h1 h2 => ?_
        by_cases e : i = b - 1
        · subst e; exact ho
        · exact h i h1 (by omega)
    · exact .inr ⟨c, h1, by omega, h3, h4⟩

/-- The worlds along a run of N moves: the threads T, the instructions X. -/
structure Along (N : Nat) (T : Nat → Nat) (X : Nat → Stp) (ws : Nat → Wd) : Prop where
  inv : ∀ j, j ≤ N → (ws j).Inv
  prog : ∀ j, j ≤ N → (ws j).prog = (ws 0).prog
  lt : ∀ j, j < N → T j < (ws 0).prog.length
  st : ∀ j, j < N → stateOf (ws j) (T j) = 1
  next : ∀ j, j < N → ws (j + 1) = moveT (ws j) (T j)
  x : ∀ j n l d, j < N → At (ws j) (T j) n l d → stpOf d = X j
  has0 : ∀ k : Nat, k < 6 → (ws 0).has[k]? = some none
  set0 : ∀ k : Nat, k < 6 → (ws 0).set[k]? = some false
  born0 : ∀ u : Nat, u < (ws 0).prog.length → (ws 0).born[u]? = some (decide (u = 0))
  place0 : ∀ u : Nat, u < (ws 0).prog.length → (ws 0).place[u]? = some 0

theorem Along.at {N : Nat} {T : Nat → Nat} {X : Nat → Stp} {ws : Nat → Wd} (A : Along N T X ws) {j : Nat} (hj : j < N) : ∃ n l d, At (ws j) (T j) n l d ∧ stpOf d = X j ∧ Parts (ws j) (ws (j + 1)) (T j) n l (X j) ∧ Rdy (ws j) (T j) (X j) ∧ SOk (ws 0).prog.length (X j) := by
  have G := (A.inv j (by omega)).good
  have hs := A.st j hj
  have hp := A.prog j (by omega)
  obtain ⟨n, l, d, At', _⟩ := stateOf_at (ws j) (T j) (by omega) (by omega) G (by rw [hp]; exact A.lt j hj)
  have hx := A.x j n l d hj At'
  refine ⟨n, l, d, At', hx, ?_, ?_, ?_⟩
  · rw [A.next j hj, moveT_at At', ← hx]; exact moveW_parts G At' _
  · rw [← hx]; exact (rdy_iff G At').1 hs
  · rw [← hx, ← hp]; exact (stpOf_kd (G.dok _ l n d At'.prog At'.txt)).sok G.n5

/-- An event on lock k; on flag u; that starts u. -/
def OnL (X : Nat → Stp) (k i : Nat) : Prop := ((X i).kind = 1 ∨ (X i).kind = 2) ∧ (X i).which = k
def OnF (X : Nat → Stp) (u i : Nat) : Prop := ((X i).kind = 3 ∨ (X i).kind = 4) ∧ (X i).which = u
def OnB (X : Nat → Stp) (u i : Nat) : Prop := (X i).kind = 6 ∧ (X i).which = u

/-- A row of worlds in which some of the moves are done. -/
structure Part (j : Nat) (T : Nat → Nat) (X : Nat → Stp) (P : Nat → Prop) (vs : Nat → Wd) : Prop where
  yes : ∀ i, i < j → P i → ∃ n l, (vs i).place[T i]? = some n ∧ Parts (vs i) (vs (i + 1)) (T i) n l (X i) ∧ SOk (vs 0).prog.length (X i)
  no : ∀ i, i < j → ¬ P i → vs (i + 1) = vs i
  lh : ∀ i, i ≤ j → (vs i).has.length = 6
  ls : ∀ i, i ≤ j → (vs i).set.length = 6

theorem which_nat {n : Nat} {x : Stp} (h : SOk n x) : ∃ w : Nat, x.which = w ∧ w < 6 := ⟨x.which.toNat, by have := h.w0; omega, by have := h.wl; have := h.w0; omega⟩

theorem Part.hasBy {j : Nat} {T : Nat → Nat} {X : Nat → Stp} {P : Nat → Prop} {vs : Nat → Wd} (A : Part j T X P vs) (k : Nat) (hk : k < 6) :
    ((∀ i, i < j → ¬ (P i ∧ OnL X k i)) → (vs j).has[k]? = (vs 0).has[k]?) ∧ (∀ i, i < j → (P i ∧ OnL X k i) → (∀ i', i < i' → i' < j → ¬ (P i' ∧ OnL X k i')) → (vs j).has[k]? = some (if (X i).kind = 1 then some (T i) else none)) := by
  refine last_write (fun j => (vs j).has[k]?) (fun i => P i ∧ OnL X k i) (fun i => some (if (X i).kind = 1 then some (T i) else none)) j (fun i hi ⟨hp, ho⟩ => ?_) (fun i hi hn => ?_)
  · obtain ⟨n, l, _, hP, hS⟩ := A.yes i hi hp
    have hl := A.lh i (by omega)
    show (vs (i + 1)).has[k]? = _
    rw [hP.has, hasAfter]
    have hw : (X i).which.toNat = k := by have := ho.2; omega
    rcases ho.1 with h1 | h1
    · rw [if_pos h1, if_pos h1, hw, List.getElem?_set, if_pos rfl, if_pos (by omega)]
    · rw [if_neg (by omega), if_pos h1, if_neg (by omega), hw, List.getElem?_set, if_pos rfl, if_pos (by omega)]
  · by_cases hp : P i
    · obtain ⟨n, l, _, hP, hS⟩ := A.yes i hi hp
      have hno : ¬ OnL X k i := fun h => hn ⟨hp, h⟩
      obtain ⟨w, hw, _⟩ := which_nat hS
      show (vs (i + 1)).has[k]? = (vs i).has[k]?
      rw [hP.has, hasAfter]
      have hwk : ((X i).kind = 1 ∨ (X i).kind = 2) → (X i).which.toNat ≠ k := fun h e => hno ⟨h, by omega⟩
      split
      · rename_i h1
        rw [List.getElem?_set, if_neg (hwk (.inl h1))]
      · split
        · rename_i h2
          rw [List.getElem?_set, if_neg (hwk (.inr h2))]
        · rfl
    · show (vs (i + 1)).has[k]? = (vs i).has[k]?
      rw [A.no i hi hp]
theorem Part.setBy {j : Nat} {T : Nat → Nat} {X : Nat → Stp} {P : Nat → Prop} {vs : Nat → Wd} (A : Part j T X P vs) (k : Nat) (hk : k < 6) :
    ((∀ i, i < j → ¬ (P i ∧ OnF X k i)) → (vs j).set[k]? = (vs 0).set[k]?) ∧ (∀ i, i < j → (P i ∧ OnF X k i) → (∀ i', i < i' → i' < j → ¬ (P i' ∧ OnF X k i')) → (vs j).set[k]? = some (decide ((X i).kind = 3))) := by
  refine last_write (fun j => (vs j).set[k]?) (fun i => P i ∧ OnF X k i) (fun i => some (decide ((X i).kind = 3))) j (fun i hi ⟨hp, ho⟩ => ?_) (fun i hi hn => ?_)
  · obtain ⟨n, l, _, hP, hS⟩ := A.yes i hi hp
    have hl := A.ls i (by omega)
    show (vs (i + 1)).set[k]? = _
    rw [hP.set, setAfter]
    have hw : (X i).which.toNat = k := by have := ho.2; omega
    rcases ho.1 with h1 | h1
    · rw [if_pos h1, decide_eq_true h1, hw, List.getElem?_set, if_pos rfl, if_pos (by omega)]
    · rw [if_neg (by omega), if_pos h1, decide_eq_false (by omega), hw, List.getElem?_set, if_pos rfl, if_pos (by omega)]
  · by_cases hp : P i
    · obtain ⟨n, l, _, hP, hS⟩ := A.yes i hi hp
      have hno : ¬ OnF X k i := fun h => hn ⟨hp, h⟩
      obtain ⟨w, hw, _⟩ := which_nat hS
      show (vs (i + 1)).set[k]? = (vs i).set[k]?
      rw [hP.set, setAfter]
      have hwk : ((X i).kind = 3 ∨ (X i).kind = 4) → (X i).which.toNat ≠ k := fun h e => hno ⟨h, by omega⟩
      split
      · rename_i h1
        rw [List.getElem?_set, if_neg (hwk (.inl h1))]
      · split
        · rename_i h2
          rw [List.getElem?_set, if_neg (hwk (.inr h2))]
        · rfl
    · show (vs (i + 1)).set[k]? = (vs i).set[k]?
      rw [A.no i hi hp]
theorem Part.bornBy {j : Nat} {T : Nat → Nat} {X : Nat → Stp} {P : Nat → Prop} {vs : Nat → Wd} (A : Part j T X P vs) (u : Nat) (hl : ∀ i, i ≤ j → u < (vs i).born.length) :
    ((∀ i, i < j → ¬ (P i ∧ OnB X u i)) → (vs j).born[u]? = (vs 0).born[u]?) ∧ (∀ i, i < j → (P i ∧ OnB X u i) → (∀ i', i < i' → i' < j → ¬ (P i' ∧ OnB X u i')) → (vs j).born[u]? = some true) := by
  refine last_write (fun j => (vs j).born[u]?) (fun i => P i ∧ OnB X u i) (fun _ => some true) j (fun i hi ⟨hp, ho⟩ => ?_) (fun i hi hn => ?_)
  · obtain ⟨n, l, _, hP, hS⟩ := A.yes i hi hp
    have hl' := hl i (by omega)
    show (vs (i + 1)).born[u]? = _
    have hw : (X i).which.toNat = u := by have := ho.2; omega
    rw [hP.born, bornAfter, if_pos ho.1, hw, List.getElem?_set, if_pos rfl, if_pos hl']
  · by_cases hp : P i
    · obtain ⟨n, l, _, hP, hS⟩ := A.yes i hi hp
      have hno : ¬ OnB X u i := fun h => hn ⟨hp, h⟩
      obtain ⟨w, hw, _⟩ := which_nat hS
      show (vs (i + 1)).born[u]? = (vs i).born[u]?
      rw [hP.born, bornAfter]
      split
      · rename_i h1
        rw [List.getElem?_set, if_neg (fun e => hno ⟨h1, by omega⟩)]
      · rfl
    · show (vs (i + 1)).born[u]? = (vs i).born[u]?
      rw [A.no i hi hp]
end Go.Proofs.YtdfndcbakcmgiabDoor
