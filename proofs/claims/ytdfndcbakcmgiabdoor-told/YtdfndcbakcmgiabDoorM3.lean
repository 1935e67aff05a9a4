import Derived.Test.YtdfndcbakcmgiabDoorM1
import Derived.Test.YtdfndcbakcmgiabDoorT24
import Derived.Test.YtdfndcbakcmgiabDoorT14
import Derived.Test.YtdfndcbakcmgiabDoorS2
namespace Go.Proofs.YtdfndcbakcmgiabDoor

/-- The worlds of the moves of a set alone. -/
def partW (W0 : Wd) (T : Nat → Nat) (S : Nat → Bool) : Nat → Wd
  | 0 => W0
  | j + 1 => if S j = true then moveT (partW W0 T S j) (T j) else partW W0 T S j

/-- A set of events that has what its events need. -/
structure ClosedN (N : Nat) (T : Nat → Nat) (X : Nat → Stp) (S : Nat → Bool) : Prop where
  own : ∀ i j, i < j → j < N → S j = true → T i = T j → S i = true
  born : ∀ i j, i < j → j < N → S j = true → OnB X (T j) i → S i = true
  joinT : ∀ i j, i < j → j < N → S j = true → (X j).kind = 7 → (X j).which = (T i : Nat) → S i = true
  joinB : ∀ i j, i < j → j < N → S j = true → (X j).kind = 7 → (X i).kind = 6 → (X i).which = (X j).which → S i = true
  flag : ∀ i j u, i < j → j < N → S j = true → (X j).kind = 5 → (X j).which = (u : Nat) → OnF X u i → (∀ i', i < i' → i' < j → ¬ OnF X u i') → S i = true
  give : ∀ i j c k, i < j → j < N → S j = true → S i = true → (X j).kind = 1 → (X j).which = (k : Nat) → (X i).kind = 1 → (X i).which = (k : Nat) → i < c → c < N → T c = T i → (X c).kind = 2 → (X c).which = (k : Nat) → (∀ g, i < g → g < c → ¬ (T g = T i ∧ (X g).kind = 2 ∧ (X g).which = (k : Nat))) → S c = true

theorem Along.part {N : Nat} {T : Nat → Nat} {X : Nat → Stp} {ws : Nat → Wd} (A : Along N T X ws) {j : Nat} (hj : j ≤ N) : Part j T X (fun _ => True) ws where
  yes := fun i hi _ => by
    obtain ⟨n, l, d, h1, h2, h3, h4, h5⟩ := A.at (j := i) (by omega)
    exact ⟨n, l, h1.place, h3, h5⟩
  no := fun i _ h => absurd trivial h
  lh := fun i hi => (A.inv i (by omega)).good.ok.nh
  ls := fun i hi => (A.inv i (by omega)).good.ok.ns

/-- Behind a take the next event on the lock is the giving back, by the same thread. -/
theorem Along.owner {N : Nat} {T : Nat → Nat} {X : Nat → Stp} {ws : Nat → Wd} (A : Along N T X ws) {i c k : Nat} (hk : k < 6) (hc : c < N) (hic : i < c) (h1 : (X i).kind = 1) (hw : (X i).which = (k : Nat)) (ho : OnL X k c) (hn : ∀ g, i < g → g < c → ¬ OnL X k g) : (X c).kind = 2 ∧ T c = T i := by
  obtain ⟨n, l, d, _, _, _, R, _⟩ := A.at hc
  have hh := ((A.part (j := c) (by omega)).hasBy k hk).2 i hic ⟨trivial, .inl h1, hw⟩ (fun i' h3 h4 h5 => hn i' h3 h4 h5.2)
  rw [if_pos h1] at hh
  have hwc : (X c).which.toNat = k := by have := ho.2; omega
  rcases ho.1 with h2 | h2
  · have := R.take h2
    rw [hwc, hh] at this
    cases this
  · have := R.give h2
    rw [hwc, hh] at this
    simp only [Option.getD_some, Option.some.injEq] at this
    exact ⟨h2, this.symm⟩

structure Sim (j : Nat) (T : Nat → Nat) (X : Nat → Stp) (S : Nat → Bool) (ws vs : Nat → Wd) : Prop where
  inv : ∀ i, i ≤ j → (vs i).Inv
  prog : ∀ i, i ≤ j → (vs i).prog = (ws 0).prog
  place : ∀ t, t < (ws 0).prog.length → (∀ i, i < j → T i = t → S i = true) → (vs j).place[t]? = (ws j).place[t]?
  part : Part j T X (fun i => S i = true) vs
  ready : ∀ i, i < j → S i = true → stateOf (vs i) (T i) = 1

theorem sim_at {N : Nat} {T : Nat → Nat} {X : Nat → Stp} {ws : Nat → Wd} (A : Along N T X ws) {S : Nat → Bool} (C : ClosedN N T X S) {vs : Nat → Wd} (h0 : vs 0 = ws 0) {j : Nat} (hj : j < N) (hS : S j = true) (M : Sim j T X S ws vs) {n : Nat} {l : List ByteArray} {d : ByteArray} (hA : At (ws j) (T j) n l d) (R : Rdy (ws j) (T j) (X j)) (hO : SOk (ws 0).prog.length (X j)) :
    At (vs j) (T j) n l d ∧ Rdy (vs j) (T j) (X j) := by
  have P := A.part (j := j) (by omega)
  have hlt := A.lt j hj
  obtain ⟨w, hw, hw6⟩ := which_nat hO
  have hwt : (X j).which.toNat = w := by omega
  -- who is born in the part is born in the whole, and all that need be
  have hbl : ∀ u, u < (ws 0).prog.length → (∀ i, i ≤ j → u < (ws i).born.length) ∧ (∀ i, i ≤ j → u < (vs i).born.length) := fun u hu =>
    ⟨fun i hi => by rw [(A.inv i (by omega)).good.ok.nb, A.prog i (by omega)]; exact hu, fun i hi => by rw [(M.inv i hi).good.ok.nb, M.prog i hi]; exact hu⟩
  have hborn : ∀ u, u < (ws 0).prog.length → (∀ i, i < j → OnB X u i → S i = true) → (vs j).born[u]? = (ws j).born[u]? := fun u hu hall => by
    obtain ⟨a1, a2⟩ := P.bornBy u (hbl u hu).1
    obtain ⟨b1, b2⟩ := M.part.bornBy u (hbl u hu).2
    rcases last_ex (fun i => OnB X u i) j with h | ⟨i, h1, h2, h3⟩
    · rw [a1 (fun i hi h4 => h i hi h4.2), b1 (fun i hi h4 => h i hi h4.2), h0]
    · rw [a2 i h1 ⟨trivial, h2⟩ (fun i' h4 h5 h6 => h3 i' h4 h5 h6.2), b2 i h1 ⟨hall i h1 h2, h2⟩ (fun i' h4 h5 h6 => h3 i' h4 h5 h6.2)]
  have hbsub : ∀ u, u < (ws 0).prog.length → (ws j).born[u]?.getD false = false → (vs j).born[u]?.getD false = false := fun u hu hb => by
    obtain ⟨a1, a2⟩ := P.bornBy u (hbl u hu).1
    obtain ⟨b1, b2⟩ := M.part.bornBy u (hbl u hu).2
    rcases last_ex (fun i => OnB X u i) j with h | ⟨i, h1, h2, h3⟩
    · rw [b1 (fun i hi h4 => h i hi h4.2), h0, ← a1 (fun i hi h4 => h i hi h4.2)]; exact hb
    · rw [a2 i h1 ⟨trivial, h2⟩ (fun i' h4 h5 h6 => h3 i' h4 h5 h6.2)] at hb
      simp at hb
  have hpl := M.place (T j) hlt (fun i hi e => C.own i j hi hj hS e)
  have hbo := hborn (T j) hlt (fun i hi ho => C.born i j hi hj hS ho)
  have hAt : At (vs j) (T j) n l d := ⟨by rw [hbo]; exact hA.born, by rw [hpl]; exact hA.place, by rw [M.prog j (Nat.le_refl _), ← A.prog j (by omega)]; exact hA.prog, hA.txt⟩
  refine ⟨hAt, ⟨fun h1 => ?_, fun h2 => ?_, fun h6 => ?_, fun h7 => ?_⟩⟩
  · -- a lock that is taken is free
    rw [hwt]
    have hfree := R.take h1
    rw [hwt] at hfree
    obtain ⟨b1, b2⟩ := M.part.hasBy w hw6
    obtain ⟨a1, a2⟩ := P.hasBy w hw6
    rcases last_ex (fun i => S i = true ∧ OnL X w i) j with h | ⟨i, hi, ⟨hSi, hoi⟩, hl⟩
    · rw [b1 h, h0, A.has0 w hw6]; rfl
    · rw [b2 i hi ⟨hSi, hoi⟩ hl]
      rcases hoi.1 with hk1 | hk2
      · exfalso
        rcases first_ex (fun g => OnL X w g) (i + 1) _ j rfl with hno | ⟨c, hc1, hc2, hc3, hc4⟩
        · rw [a2 i hi ⟨trivial, hoi⟩ (fun i' h3 h4 h5 => hno i' (by omega) h4 h5.2), if_pos hk1] at hfree
          simp at hfree
        · obtain ⟨hc5, hc6⟩ := A.owner hw6 (show c < N by omega) (show i < c by omega) hk1 hoi.2 hc3 (fun g h3 h4 => hc4 g (by omega) h4)
          have hSc := C.give i j c w hi hj hS hSi h1 hw hk1 hoi.2 (by omega) (by omega) hc6 hc5 hc3.2 (fun g h3 h4 h5 => hc4 g (by omega) h4 ⟨.inr h5.2.1, h5.2.2⟩)
          exact hl c (by omega) hc2 ⟨hSc, hc3⟩
      · rw [if_neg (by omega)]; rfl
  · -- a lock that is given back is had
    rw [hwt]
    have hhad := R.give h2
    rw [hwt] at hhad
    obtain ⟨b1, b2⟩ := M.part.hasBy w hw6
    obtain ⟨a1, a2⟩ := P.hasBy w hw6
    rcases last_ex (fun i => OnL X w i) j with h | ⟨i, hi, hoi, hl⟩
    · rw [a1 (fun i hi h4 => h i hi h4.2), A.has0 w hw6] at hhad
      simp at hhad
    · rw [a2 i hi ⟨trivial, hoi⟩ (fun i' h3 h4 h5 => hl i' h3 h4 h5.2)] at hhad
      simp only [Option.getD_some] at hhad
      split at hhad
      · rename_i hk1
        have hT : T i = T j := by simpa using hhad
        have hSi := C.own i j hi hj hS hT
        rw [b2 i hi ⟨hSi, hoi⟩ (fun i' h3 h4 h5 => hl i' h3 h4 h5.2), if_pos hk1, hT]
        rfl
      · cases hhad
  · -- who is started was not born
    rw [hwt]
    have := R.start h6
    rw [hwt] at this
    exact hbsub w (by have := hO.wt (.inl h6); omega) this
  · -- who is waited for has ended
    rw [hwt]
    have hover := R.join h7
    rw [hwt] at hover
    have hwn : w < (ws 0).prog.length := by have := hO.wt (.inr h7); omega
    have e1 := hborn w hwn (fun i hi ho => C.joinB i j hi hj hS h7 ho.1 (ho.2.trans hw.symm))
    have e2 := M.place w hwn (fun i hi e => C.joinT i j hi hj hS h7 (by rw [hw, e]))
    unfold overOf at hover ⊢
    rw [e1, e2, M.prog j (Nat.le_refl _), ← A.prog j (by omega)]
    exact hover

theorem sim_flag {N : Nat} {T : Nat → Nat} {X : Nat → Stp} {ws : Nat → Wd} (A : Along N T X ws) {S : Nat → Bool} (C : ClosedN N T X S) {vs : Nat → Wd} (h0 : vs 0 = ws 0) {j : Nat} (hj : j < N) (hS : S j = true) (M : Sim j T X S ws vs) (h5 : (X j).kind = 5) {w : Nat} (hw : (X j).which = w) (hw6 : w < 6) : (vs j).set[w]? = (ws j).set[w]? := by
  obtain ⟨a1, a2⟩ := (A.part (j := j) (by omega)).setBy w hw6
  obtain ⟨b1, b2⟩ := M.part.setBy w hw6
  rcases last_ex (fun i => OnF X w i) j with h | ⟨i, hi, hoi, hl⟩
  · rw [a1 (fun i hi h4 => h i hi h4.2), b1 (fun i hi h4 => h i hi h4.2), h0]
  · have hSi := C.flag i j w hi hj hS h5 hw hoi hl
    rw [a2 i hi ⟨trivial, hoi⟩ (fun i' h3 h4 h6 => hl i' h3 h4 h6.2), b2 i hi ⟨hSi, hoi⟩ (fun i' h3 h4 h6 => hl i' h3 h4 h6.2)]

/-- The moves of a closed set are a schedule: each thread does what it did. -/
theorem sim_all {N : Nat} {T : Nat → Nat} {X : Nat → Stp} {ws : Nat → Wd} (A : Along N T X ws) {S : Nat → Bool} (C : ClosedN N T X S) : ∀ j, j ≤ N → Sim j T X S ws (partW (ws 0) T S)
  | 0, _ => ⟨fun i hi => by
      have : i = 0 := by omega
      subst this
      exact A.inv 0 (by omega), fun i hi => by
      have : i = 0 := by omega
      subst this
      rfl, fun t _ _ => rfl, ⟨fun i hi => absurd hi (Nat.not_lt_zero _), fun i hi => absurd hi (Nat.not_lt_zero _), fun i hi => by
      have : i = 0 := by omega
      subst this
      exact (A.inv 0 (by omega)).good.ok.nh, fun i hi => by
      have : i = 0 := by omega
      subst this
      exact (A.inv 0 (by omega)).good.ok.ns⟩, fun i hi => absurd hi (Nat.not_lt_zero _)⟩
  | j + 1, hj => by
    have M := sim_all A C j (by omega)
    obtain ⟨n, l, d, hA, hx, hP, R, hO⟩ := A.at (j := j) (by omega)
    have hlt := A.lt j (by omega)
    by_cases hS : S j = true
    · obtain ⟨hA', R'⟩ := sim_at A C (vs := partW (ws 0) T S) rfl (show j < N by omega) hS M hA R hO
      have G' := (M.inv j (Nat.le_refl _)).good
      have hst : stateOf (partW (ws 0) T S j) (T j) = 1 := by rw [rdy_iff G' hA', hx]; exact R'
      have hnx : partW (ws 0) T S (j + 1) = moveT (partW (ws 0) T S j) (T j) := by rw [partW, if_pos hS]
      have hI : (partW (ws 0) T S (j + 1)).Inv := by
        rw [hnx]
        exact moveT_inv (M.inv j (Nat.le_refl _)) (by rw [M.prog j (Nat.le_refl _)]; exact hlt) hst
      have hpg : (partW (ws 0) T S (j + 1)).prog = (ws 0).prog := by rw [hnx, moveT_prog, M.prog j (Nat.le_refl _)]
      have hP' : Parts (partW (ws 0) T S j) (partW (ws 0) T S (j + 1)) (T j) n l (X j) := by rw [hnx, moveT_at hA', ← hx]; exact moveW_parts G' hA' _
      refine ⟨fun i hi => ?_, fun i hi => ?_, fun t ht hall => ?_, ⟨fun i hi hSi => ?_, fun i hi hSi => ?_, fun i hi => ?_, fun i hi => ?_⟩, fun i hi hSi => ?_⟩
      · by_cases e : i = j + 1
        · rw [e]; exact hI
        · exact M.inv i (by omega)
      · by_cases e : i = j + 1
        · rw [e]; exact hpg
        · exact M.prog i (by omega)
      · rw [hP'.place, hP.place]
        by_cases htj : t = T j
        · subst htj
          have l1 : T j < (partW (ws 0) T S j).place.length := by rw [G'.ok.nl, M.prog j (Nat.le_refl _)]; exact hlt
          have l2 : T j < (ws j).place.length := by rw [(A.inv j (by omega)).good.ok.nl, A.prog j (by omega)]; exact hlt
          rw [List.getElem?_set, List.getElem?_set, if_pos rfl, if_pos rfl, if_pos l1, if_pos l2]
          congr 1
          unfold placeAfter
          split
          · rename_i h5
            obtain ⟨w, hw, hw6⟩ := which_nat hO
            have hwt : (X j).which.toNat = w := by omega
            rw [hwt, sim_flag A C (vs := partW (ws 0) T S) rfl (show j < N by omega) hS M h5 hw hw6]
          · rfl
        · rw [List.getElem?_set, List.getElem?_set, if_neg (fun e => htj e.symm), if_neg (fun e => htj e.symm)]
          exact M.place t ht (fun i hi e => hall i (by omega) e)
      · by_cases e : i = j
        · subst e
          exact ⟨n, l, hA'.place, hP', hO⟩
        · exact M.part.yes i (by omega) hSi
      · by_cases e : i = j
        · subst e; exact absurd hS hSi
        · exact M.part.no i (by omega) hSi
      · by_cases e : i = j + 1
        · rw [e]; exact hI.good.ok.nh
        · exact M.part.lh i (by omega)
      · by_cases e : i = j + 1
        · rw [e]; exact hI.good.ok.ns
        · exact M.part.ls i (by omega)
      · by_cases e : i = j
        · subst e; exact hst
        · exact M.ready i (by omega) hSi
    · have hnx : partW (ws 0) T S (j + 1) = partW (ws 0) T S j := by rw [partW, if_neg hS]
      refine ⟨fun i hi => ?_, fun i hi => ?_, fun t ht hall => ?_, ⟨fun i hi hSi => ?_, fun i hi hSi => ?_, fun i hi => ?_, fun i hi => ?_⟩, fun i hi hSi => ?_⟩
      · by_cases e : i = j + 1
        · rw [e, hnx]; exact M.inv j (Nat.le_refl _)
        · exact M.inv i (by omega)
      · by_cases e : i = j + 1
        · rw [e, hnx]; exact M.prog j (Nat.le_refl _)
        · exact M.prog i (by omega)
      · have htj : t ≠ T j := fun e => hS (hall j (by omega) e.symm)
        rw [hnx, hP.place, List.getElem?_set, if_neg (fun e => htj e.symm)]
        exact M.place t ht (fun i hi e => hall i (by omega) e)
      · by_cases e : i = j
        · subst e; exact absurd hSi hS
        · exact M.part.yes i (by omega) hSi
      · by_cases e : i = j
        · subst e; exact hnx
        · exact M.part.no i (by omega) hSi
      · by_cases e : i = j + 1
        · rw [e, hnx]; exact M.part.lh j (Nat.le_refl _)
        · exact M.part.lh i (by omega)
      · by_cases e : i = j + 1
        · rw [e, hnx]; exact M.part.ls j (Nat.le_refl _)
        · exact M.part.ls i (by omega)
      · by_cases e : i = j
        · subst e; exact absurd hSi hS
        · exact M.ready i (by omega) hSi
end Go.Proofs.YtdfndcbakcmgiabDoor
namespace Go.Proofs.YtdfndcbakcmgiabDoor

/-! Where the threads of a closed set stand behind its moves. -/
theorem partW_place {T : Nat → Nat} {X : Nat → Stp} {S : Nat → Bool} {vs : Nat → Wd} {N t i : Nat} (P : Part N T X (fun i => S i = true) vs) (hi : i < N) (hS : S i = true) (hT : T i = t) (hl : ∀ i', i < i' → i' < N → S i' = true → T i' ≠ t) : (vs N).place[t]? = (vs (i + 1)).place[t]? := by
  refine (last_write (fun j => (vs j).place[t]?) (fun i => S i = true ∧ T i = t) (fun i => (vs (i + 1)).place[t]?) N (fun _ _ _ => rfl) (fun k hk hn => ?_)).2 i hi ⟨hS, hT⟩ (fun i' h1 h2 h3 => hl i' h1 h2 h3.1 h3.2)
  show (vs (k + 1)).place[t]? = (vs k).place[t]?
  by_cases hp : S k = true
  · obtain ⟨n, l, _, hP, _⟩ := P.yes k hk hp
    rw [hP.place, List.getElem?_set, if_neg (fun e => hn ⟨hp, e⟩)]
  · rw [P.no k hk hp]

theorem stands_place {N : Nat} {T : Nat → Nat} {X : Nat → Stp} {ws : Nat → Wd} (A : Along N T X ws) {S : Nat → Bool} (C : ClosedN N T X S) {i t : Nat} (hi : i < N) (hS : S i = true) (hT : T i = t) (hl : ∀ i', i < i' → i' < N → S i' = true → T i' ≠ t) : (partW (ws 0) T S N).place[t]? = (ws (i + 1)).place[t]? := by
  rw [partW_place (sim_all A C N (Nat.le_refl _)).part hi hS hT hl]
  refine (sim_all A C (i + 1) (by omega)).place t (by rw [← hT]; exact A.lt i hi) (fun i' h1 h2 => ?_)
  by_cases e : i' = i
  · rw [e]; exact hS
  · exact C.own i' i (by omega) hi hS (by rw [h2, hT])

theorem stands_has {N : Nat} {T : Nat → Nat} {X : Nat → Stp} {ws : Nat → Wd} (A : Along N T X ws) {S : Nat → Bool} (C : ClosedN N T X S) {i t : Nat} (hi : i < N) (hS : S i = true) (hT : T i = t) (hl : ∀ i', i < i' → i' < N → S i' = true → T i' ≠ t) {k : Nat} (hk : k < 6) :
    ((partW (ws 0) T S N).has[k]?.getD none = some t) ↔ ((ws (i + 1)).has[k]?.getD none = some t) := by
  have P := (sim_all A C N (Nat.le_refl _)).part
  obtain ⟨b1, b2⟩ := P.hasBy k hk
  obtain ⟨a1, a2⟩ := (A.part (j := i + 1) (by omega)).hasBy k hk
  have hown : ∀ a, a ≤ i → T a = t → S a = true := fun a ha e => by
    by_cases e2 : a = i
    · rw [e2]; exact hS
    · exact C.own a i (by omega) hi hS (by rw [e, hT])
  constructor
  · intro h
    rcases last_ex (fun i => S i = true ∧ OnL X k i) N with h1 | ⟨a, ha, ⟨hSa, hoa⟩, hla⟩
    · rw [b1 h1, show partW (ws 0) T S 0 = ws 0 from rfl, A.has0 k hk] at h
      simp at h
    · rw [b2 a ha ⟨hSa, hoa⟩ hla] at h
      simp only [Option.getD_some] at h
      split at h
      · rename_i hk1
        have hTa : T a = t := by simpa using h
        have hai : a ≤ i := by
          refine Nat.le_of_not_lt fun hlt => hl a hlt ha hSa hTa
        -- no event on the lock behind a, up to i
        have hno : ∀ c, a < c → c < i + 1 → ¬ OnL X k c := fun c h1 h2 h3 => by
          rcases first_ex (fun g => OnL X k g) (a + 1) _ (c + 1) rfl with hn | ⟨c0, hc1, hc2, hc3, hc4⟩
          · exact hn c (by omega) (by omega) h3
          · obtain ⟨_, hc6⟩ := A.owner hk (show c0 < N by omega) (show a < c0 by omega) hk1 hoa.2 hc3 (fun g h5 h6 => hc4 g (by omega) h6)
            exact hla c0 (by omega) (by omega) ⟨hown c0 (by omega) (by rw [hc6, hTa]), hc3⟩
        rw [a2 a (by omega) ⟨trivial, hoa⟩ (fun i' h3 h4 h5 => hno i' h3 h4 h5.2), if_pos hk1, hTa]; rfl
      · cases h
  · intro h
    rcases last_ex (fun i => OnL X k i) (i + 1) with h1 | ⟨a, ha, hoa, hla⟩
    · rw [a1 (fun i hi h4 => h1 i hi h4.2), A.has0 k hk] at h
      simp at h
    · rw [a2 a ha ⟨trivial, hoa⟩ (fun i' h3 h4 h5 => hla i' h3 h4 h5.2)] at h
      simp only [Option.getD_some] at h
      split at h
      · rename_i hk1
        have hTa : T a = t := by simpa using h
        have hSa := hown a (by omega) hTa
        -- no event of the set on the lock behind a
        have hno : ∀ b, a < b → b < N → ¬ (S b = true ∧ OnL X k b) := fun b h1 h2 ⟨hSb, hob⟩ => by
          rcases first_ex (fun g => OnL X k g) (a + 1) _ (b + 1) rfl with hn | ⟨c, hc1, hc2, hc3, hc4⟩
          · exact hn b (by omega) (by omega) hob
          · obtain ⟨hc5, hc6⟩ := A.owner hk (show c < N by omega) (show a < c by omega) hk1 hoa.2 hc3 (fun g h5 h6 => hc4 g (by omega) h6)
            have hci : i < c := Nat.lt_of_not_le fun hle => hla c (by omega) (by omega) hc3
            have hScn : S c ≠ true := fun hSc => hl c hci (by omega) hSc (by rw [hc6, hTa])
            -- the first take of the set behind c
            have htk : ∃ b', c < b' ∧ b' ≤ b ∧ S b' = true ∧ (X b').kind = 1 ∧ (X b').which = (k : Nat) := by
              rcases hob.1 with hb1 | hb2
              · refine ⟨b, ?_, Nat.le_refl _, hSb, hb1, hob.2⟩
                rcases Nat.lt_or_ge c b with h7 | h7
                · exact h7
                · have : b = c := by omega
                  subst this
                  exact absurd hSb hScn
              · -- a giving back: its taking is in the set too
                have hcb : c ≠ b := fun e => by rw [e] at hScn; exact hScn hSb
                rcases last_ex (fun g => OnL X k g) b with hn | ⟨e, he1, he2, he3⟩
                · exact absurd hoa (hn a h1)
                · have heb := ((A.part (j := b) (by omega)).hasBy k hk).2 e he1 ⟨trivial, he2⟩ (fun i' h3 h4 h5 => he3 i' h3 h4 h5.2)
                  obtain ⟨n, l, d, _, _, _, R, _⟩ := A.at h2
                  have hg := R.give hb2
                  have hwb : (X b).which.toNat = k := by have := hob.2; omega
                  rw [hwb, heb] at hg
                  simp only [Option.getD_some] at hg
                  split at hg
                  · rename_i hk1'
                    have hTe : T e = T b := by simpa using hg
                    have hSe := C.own e b he1 h2 hSb hTe
                    have hce : c < e := by
                      rcases Nat.lt_or_ge c e with h7 | h7
                      · exact h7
                      · rcases Nat.lt_or_ge e c with h8 | h8
                        · have hcb' : c < b := by omega
                          exact absurd hc3 (he3 c h8 hcb')
                        · have : e = c := by omega
                          subst this
                          exact absurd hSe hScn
                    exact ⟨e, hce, by omega, hSe, hk1', he2.2⟩
                  · cases hg
            obtain ⟨b', hb1, hb2, hb3, hb4, hb5⟩ := htk
            exact hScn (C.give a b' c k (by omega) (by omega) hb3 hSa hb4 hb5 hk1 hoa.2 (by omega) (by omega) hc6 hc5 hc3.2 (fun g h5 h6 h7 => hc4 g (by omega) h6 ⟨.inr h7.2.1, h7.2.2⟩))
        rw [b2 a (by omega) ⟨hSa, hoa⟩ hno, if_pos hk1, hTa]; rfl
      · cases h
theorem stands_holds {N : Nat} {T : Nat → Nat} {X : Nat → Stp} {ws : Nat → Wd} (A : Along N T X ws) {S : Nat → Bool} (C : ClosedN N T X S) {i t : Nat} (hi : i < N) (hS : S i = true) (hT : T i = t) (hl : ∀ i', i < i' → i' < N → S i' = true → T i' ≠ t) : holdsOf (partW (ws 0) T S N) t = holdsOf (ws (i + 1)) t := by
  rw [holdsOf_held, holdsOf_held]
  congr 1
  unfold heldL
  apply List.filter_congr
  intro k hk
  have hk6 := List.mem_range.1 hk
  exact decide_eq_decide.2 (stands_has A C hi hS hT hl hk6)
end Go.Proofs.YtdfndcbakcmgiabDoor
namespace Go.Proofs.YtdfndcbakcmgiabDoor

/-! A run's worlds, its log, and its closed sets. -/
theorem goL_append : ∀ (a b : List Nat) (W : Wd), goL W (a ++ b) = (goL W a).bind fun V => goL V b
  | [], b, W => by simp [goL]
  | t :: a, b, W => by
    simp only [List.cons_append, goL]
    split
    · exact goL_append a b _
    · rfl
def worldAt (W0 : Wd) (ms : List Nat) (j : Nat) : Wd := (goL W0 (ms.take j)).getD W0
theorem worldAt_some {W0 WE : Wd} {ms : List Nat} (h : goL W0 ms = some WE) (j : Nat) : goL W0 (ms.take j) = some (worldAt W0 ms j) := by
  have h2 := h
  rw [← List.take_append_drop j ms, goL_append] at h2
  cases hg : goL W0 (ms.take j) with
  | none => rw [hg] at h2; simp at h2
  | some V => simp [worldAt, hg]
def thAt (ms : List Nat) (j : Nat) : Nat := ms[j]?.getD 0
def stpAt (W0 : Wd) (ms : List Nat) (j : Nat) : Stp := stpOf (evAt (worldAt W0 ms j) (thAt ms j)).txt
theorem worldAt_step {W0 WE : Wd} {ms : List Nat} (h : goL W0 ms = some WE) {j : Nat} (hj : j < ms.length) :
    thAt ms j < (worldAt W0 ms j).prog.length ∧ stateOf (worldAt W0 ms j) (thAt ms j) = 1 ∧ worldAt W0 ms (j + 1) = moveT (worldAt W0 ms j) (thAt ms j) := by
  have hm : ms[j]? = some (thAt ms j) := by simp [thAt, hj]
  have h1 := worldAt_some h j
  have h2 := worldAt_some h (j + 1)
  rw [List.take_add_one, hm, Option.toList_some, goL_snoc, h1] at h2
  simp only [Option.bind_some] at h2
  split at h2
  · rename_i hc
    exact ⟨hc.1, hc.2, by simpa using h2.symm⟩
  · cases h2

theorem along_of (ths : List ByteArray) (I0 : (beginW ths).Inv) {WE : Wd} {ms : List Nat} (h : goL (beginW ths) ms = some WE) : Along ms.length (thAt ms) (stpAt (beginW ths) ms) (worldAt (beginW ths) ms) := by
  have h0 : worldAt (beginW ths) ms 0 = beginW ths := by simp [worldAt, goL]
  have hpr : ∀ j, (worldAt (beginW ths) ms j).Inv ∧ (worldAt (beginW ths) ms j).prog = (beginW ths).prog := fun j => goL_inv _ _ _ I0 (worldAt_some h j)
  have hl : (beginW ths).prog.length = ths.length := by simp [beginW, madeW]
  refine ⟨fun j _ => (hpr j).1, fun j _ => by rw [h0]; exact (hpr j).2, fun j hj => ?_, fun j hj => (worldAt_step h hj).2.1, fun j hj => (worldAt_step h hj).2.2, fun j n l d hj hA => ?_, fun k hk => ?_, fun k hk => ?_, fun u hu => ?_, fun u hu => ?_⟩
  · rw [h0, ← (hpr j).2]; exact (worldAt_step h hj).1
  · simp [stpAt, evAt, hA.prog, hA.place, hA.txt]
  · rw [h0]
    show (List.replicate 6 none)[k]? = _
    rw [List.getElem?_replicate, if_pos hk]
  · rw [h0]
    show (List.replicate 6 false)[k]? = _
    rw [List.getElem?_replicate, if_pos hk]
  · rw [h0] at hu ⊢
    show ((List.range ths.length).map (fun i => decide (i = 0)))[u]? = _
    rw [List.getElem?_map, List.getElem?_range (by omega)]; rfl
  · rw [h0] at hu ⊢
    show (List.replicate ths.length 0)[u]? = _
    rw [List.getElem?_replicate, if_pos (by omega)]

theorem log_of {W0 WE : Wd} {ms : List Nat} (h : goL W0 ms = some WE) (hl : W0.log = []) : ∀ j, j ≤ ms.length → (worldAt W0 ms j).log.length = j ∧ ∀ i, i < j → (worldAt W0 ms j).log[i]? = some (evAt (worldAt W0 ms i) (thAt ms i))
  | 0, _ => by
    have h0 : worldAt W0 ms 0 = W0 := by simp [worldAt, goL]
    rw [h0, hl]
    exact ⟨rfl, fun i hi => absurd hi (Nat.not_lt_zero _)⟩
  | j + 1, hj => by
    obtain ⟨h1, h2⟩ := log_of h hl j (by omega)
    have h3 := (worldAt_step h (show j < ms.length by omega)).2.2
    rw [h3, moveT_logE]
    refine ⟨by simp [h1], fun i hi => ?_⟩
    by_cases e : i = j
    · subst e
      rw [List.getElem?_append_right (by omega), h1, Nat.sub_self]; rfl
    · rw [List.getElem?_append_left (by omega)]
      exact h2 i (by omega)
theorem worldAt_end {W0 WE : Wd} {ms : List Nat} (h : goL W0 ms = some WE) : worldAt W0 ms ms.length = WE := by
  have := worldAt_some h ms.length
  rw [List.take_length, h] at this
  simpa using this.symm

theorem flagL_last (log : List Ev) (u : Nat) (x : Nat → Stp) (hx : ∀ i, i < log.length → ∃ v, log[i]? = some v ∧ stpOf v.txt = x i) {i : Nat} (ho : OnF x u i) : ∀ j, j ≤ log.length → i < j → (∀ i', i < i' → i' < j → ¬ OnF x u i') → flagL log u j = i
  | 0, _, hi, _ => absurd hi (Nat.not_lt_zero _)
  | j + 1, hj, hi, hn => by
    obtain ⟨v, hv, hs⟩ := hx j (by omega)
    rw [flagL, hv, Option.map_some, Option.getD_some, hs]
    by_cases e : i = j
    · subst e
      rw [if_pos (by rw [decide_eq_true_iff]; exact ho)]
    · rw [if_neg (by rw [decide_eq_true_iff]; exact hn j (by omega) (by omega))]
      exact flagL_last log u x hx ho j (by omega) (by omega) (fun i' h1 h2 => hn i' h1 (by omega))
theorem givenL_first (log : List Ev) (t u : Nat) (T : Nat → Nat) (x : Nat → Stp) (hx : ∀ i, i < log.length → ∃ v, log[i]? = some v ∧ stpOf v.txt = x i ∧ v.thread = T i) {c : Nat} (hc : c < log.length) (ho : T c = t ∧ (x c).kind = 2 ∧ (x c).which = (u : Nat)) : ∀ d g, c - g = d → g ≤ c → (∀ i, g ≤ i → i < c → ¬ (T i = t ∧ (x i).kind = 2 ∧ (x i).which = (u : Nat))) → givenL log t u g = c := by
  have hdec : ∀ i, i < log.length → ((log[i]?.map fun v => decide (v.thread = (t : Int)) && decide ((stpOf v.txt).kind = 2 ∧ (stpOf v.txt).which = u)).getD false = true ↔ (T i = t ∧ (x i).kind = 2 ∧ (x i).which = (u : Nat))) := fun i hi => by
    obtain ⟨v, hv, hs, ht⟩ := hx i hi
    rw [hv, Option.map_some, Option.getD_some, hs, ht, Bool.and_eq_true, decide_eq_true_iff, decide_eq_true_iff]
    constructor
    · rintro ⟨h1, h2⟩; exact ⟨by omega, h2⟩
    · rintro ⟨h1, h2⟩; exact ⟨by omega, h2⟩
  intro d
  induction d with
  | zero =>
    intro g hd hg hn
    have : g = c := by omega
    subst this
    rw [givenL, if_pos hc, if_pos ((hdec g hc).2 ho)]
  | succ d ih =>
    intro g hd hg hn
    have hgl : g < log.length := by omega
    rw [givenL, if_pos hgl, if_neg (fun hh => hn g (Nat.le_refl _) (by omega) ((hdec g hgl).1 hh))]
    exact ih (g + 1) (by omega) (by omega) (fun i h1 h2 => hn i (by omega) h2)

theorem closedN_of (ths : List ByteArray) (I0 : (beginW ths).Inv) {WE : Wd} {ms : List Nat} (h : goL (beginW ths) ms = some WE) (m : List Bool) (hC : ClosedS WE.log m) : ClosedN ms.length (thAt ms) (stpAt (beginW ths) ms) (fun i => m[i]?.getD false) := by
  have hl0 : (beginW ths).log = [] := by simp [beginW, madeW]
  obtain ⟨hln, hlg⟩ := log_of h hl0 ms.length (Nat.le_refl _)
  rw [worldAt_end h] at hln hlg
  have hx : ∀ i, i < WE.log.length → ∃ v, WE.log[i]? = some v ∧ stpOf v.txt = stpAt (beginW ths) ms i ∧ v.thread = thAt ms i := fun i hi => ⟨_, hlg i (by omega), rfl, rfl⟩
  have A := along_of ths I0 h
  have hsr : ∀ {j i : Nat}, m[j]? = some true → Need WE.log m j i → m[i]?.getD false = true := fun hj hn => getD_true.2 (hC _ hj _ hn)
  have hlead : ∀ {i j : Nat}, i < j → j < ms.length → m[j]?.getD false = true → strB (thAt ms i) (thAt ms j) (stpAt (beginW ths) ms i) (stpAt (beginW ths) ms j) = true → m[i]?.getD false = true := fun {i j} hij hj hm hb => by
    refine hsr (getD_true.1 hm) (.ahead hij ((aheadR_iff WE.log j (by omega) i).2 (.one hij ?_)))
    rw [leadB_at (hlg i (by omega)) (hlg j hj)]
    exact hb
  refine ⟨fun i j hij hj hm e => hlead hij hj hm ?_, fun i j hij hj hm ho => hlead hij hj hm ?_, fun i j hij hj hm h7 e => hlead hij hj hm ?_, fun i j hij hj hm h7 h6 e => hlead hij hj hm ?_, fun i j u hij hj hm h5 hu ho hn => ?_, fun i j c k hij hj hm hmi h1 hw h1' hw' hic hc hT h2 hw2 hn => ?_⟩
  · simp [strB, e]
  · simp [strB, ho.1, ho.2]
  · simp [strB, h7, e]
  · simp [strB, h7, h6, e]
  · refine hsr (getD_true.1 hm) (.flag _ u (hlg j hj) h5 hu ?_)
    exact flagL_last WE.log u _ (fun i hi => let ⟨v, h1, h2, _⟩ := hx i hi; ⟨v, h1, h2⟩) ho j (by omega) hij hn
  · refine hsr (getD_true.1 hm) (.give _ _ k i (hlg j hj) h1 hw hij (getD_true.1 hmi) (hlg i (by omega)) h1' hw' ?_)
    exact givenL_first WE.log (thAt ms i) k (thAt ms) _ hx (by omega) ⟨hT, h2, hw2⟩ _ (i + 1) rfl (by omega) (fun g h3 h4 h5 => hn g (by omega) h4 h5)

/-- The schedule of a closed set's moves. -/
theorem goL_part {N : Nat} {T : Nat → Nat} {X : Nat → Stp} {ws : Nat → Wd} (A : Along N T X ws) {S : Nat → Bool} (C : ClosedN N T X S) : ∀ j, j ≤ N → goL (ws 0) (((List.range j).filter S).map T) = some (partW (ws 0) T S j)
  | 0, _ => rfl
  | j + 1, hj => by
    have ih := goL_part A C j (by omega)
    have M := sim_all A C (j + 1) hj
    rw [List.range_succ, List.filter_append, List.map_append]
    by_cases hS : S j = true
    · have hst := M.ready j (by omega) hS
      have hlt : T j < (partW (ws 0) T S j).prog.length := by rw [M.prog j (by omega)]; exact A.lt j (by omega)
      rw [show [j].filter S = [j] by simp [hS], List.map_singleton, goL_snoc, ih, Option.bind_some, if_pos ⟨hlt, hst⟩, partW, if_pos hS]
    · rw [show [j].filter S = [] by simp [hS], List.map_nil, List.append_nil, ih, partW, if_neg hS]
end Go.Proofs.YtdfndcbakcmgiabDoor
