import Derived.Test.YtdfndcbakcmgiabDoorM3
import Derived.Test.YtdfndcbakcmgiabDoorU11
import Derived.Test.YtdfndcbakcmgiabDoorU6
import Derived.Test.YtdfndcbakcmgiabDoorV1
namespace Go.Proofs.YtdfndcbakcmgiabDoor

/-! Where a thread stands behind the moves of a closed set that has just its events below j. -/
structure UpTo (N : Nat) (T : Nat → Nat) (S : Nat → Bool) (j t : Nat) : Prop where
  pre : ∀ i, i < j → T i = t → S i = true
  post : ∀ i, j ≤ i → i < N → T i = t → S i ≠ true

theorem upto_place {N : Nat} {T : Nat → Nat} {X : Nat → Stp} {ws : Nat → Wd} (A : Along N T X ws) {S : Nat → Bool} (C : ClosedN N T X S) {j t : Nat} (hj : j ≤ N) (ht : t < (ws 0).prog.length) (U : UpTo N T S j t) : (partW (ws 0) T S N).place[t]? = (ws j).place[t]? := by
  rw [← (sim_all A C j hj).place t ht U.pre]
  have P := (sim_all A C N (Nat.le_refl _)).part
  have step : ∀ d, j + d ≤ N → (partW (ws 0) T S (j + d)).place[t]? = (partW (ws 0) T S j).place[t]? := by
    intro d
    induction d with
    | zero => intro _; rfl
    | succ d ih =>
      intro hd
      rw [← ih (by omega)]
      by_cases hp : S (j + d) = true
      · obtain ⟨n, l, _, hP, _⟩ := P.yes (j + d) (by omega) hp
        rw [← Nat.add_assoc, hP.place, List.getElem?_set, if_neg (fun e => U.post (j + d) (by omega) (by omega) e hp)]
      · rw [← Nat.add_assoc, P.no (j + d) (by omega) hp]
  have := step (N - j) (by omega)
  rwa [show j + (N - j) = N by omega] at this

theorem upto_has {N : Nat} {T : Nat → Nat} {X : Nat → Stp} {ws : Nat → Wd} (A : Along N T X ws) {S : Nat → Bool} (C : ClosedN N T X S) {j t : Nat} (hj : j ≤ N) (U : UpTo N T S j t) {k : Nat} (hk : k < 6) :
    ((partW (ws 0) T S N).has[k]?.getD none = some t) ↔ ((ws j).has[k]?.getD none = some t) := by
  have P := (sim_all A C N (Nat.le_refl _)).part
  obtain ⟨b1, b2⟩ := P.hasBy k hk
  obtain ⟨a1, a2⟩ := (A.part (j := j) hj).hasBy k hk
  constructor
  · intro h
    rcases last_ex (fun i => S i = true ∧ OnL X k i) N with h1 | ⟨a, ha, ⟨hSa, hoa⟩, hla⟩
    · rw [b1 h1, show partW (ws 0) T S 0 = ws 0 from rfl, A.has0 k hk] at h
      simp at h
    · rw [b2 a ha ⟨hSa, hoa⟩ hla] at h
      simp only [Option.getD_some] at h
      split at h
      · rename_i hk1
        have hTa : T a = t := by simpa using h
        have hai : a < j := Nat.lt_of_not_le fun hle => U.post a hle ha hTa hSa
        have hno : ∀ c, a < c → c < j → ¬ OnL X k c := fun c h1 h2 h3 => by
          rcases first_ex (fun g => OnL X k g) (a + 1) _ (c + 1) rfl with hn | ⟨c0, hc1, hc2, hc3, hc4⟩
          · exact hn c (by omega) (by omega) h3
          · obtain ⟨_, hc6⟩ := A.owner hk (show c0 < N by omega) (show a < c0 by omega) hk1 hoa.2 hc3 (fun g h5 h6 => hc4 g (by omega) h6)
            exact hla c0 (by omega) (by omega) ⟨U.pre c0 (by omega) (by rw [hc6, hTa]), hc3⟩
        rw [a2 a (by omega) ⟨trivial, hoa⟩ (fun i' h3 h4 h5 => hno i' h3 h4 h5.2), if_pos hk1, hTa]; rfl
      · cases h
  · intro h
    rcases last_ex (fun i => OnL X k i) j with h1 | ⟨a, ha, hoa, hla⟩
    · rw [a1 (fun i hi h4 => h1 i hi h4.2), A.has0 k hk] at h
      simp at h
    · rw [a2 a ha ⟨trivial, hoa⟩ (fun i' h3 h4 h5 => hla i' h3 h4 h5.2)] at h
      simp only [Option.getD_some] at h
      split at h
      · rename_i hk1
        have hTa : T a = t := by simpa using h
        have hSa := U.pre a ha hTa
        have hno : ∀ b, a < b → b < N → ¬ (S b = true ∧ OnL X k b) := fun b h1 h2 ⟨hSb, hob⟩ => by
          rcases first_ex (fun g => OnL X k g) (a + 1) _ (b + 1) rfl with hn | ⟨c, hc1, hc2, hc3, hc4⟩
          · exact hn b (by omega) (by omega) hob
          · obtain ⟨hc5, hc6⟩ := A.owner hk (show c < N by omega) (show a < c by omega) hk1 hoa.2 hc3 (fun g h5 h6 => hc4 g (by omega) h6)
            have hci : j ≤ c := Nat.le_of_not_lt fun hlt => hla c (by omega) hlt hc3
            have hScn : S c ≠ true := fun hSc => U.post c hci (by omega) (by rw [hc6, hTa]) hSc
            have htk : ∃ b', c < b' ∧ b' ≤ b ∧ S b' = true ∧ (X b').kind = 1 ∧ (X b').which = (k : Nat) := by
              rcases hob.1 with hb1 | hb2
              · refine ⟨b, ?_, Nat.le_refl _, hSb, hb1, hob.2⟩
                rcases Nat.lt_or_ge c b with h7 | h7
                · exact h7
                · have : b = c := by omega
                  subst this
                  exact absurd hSb hScn
              · have hcb : c ≠ b := fun e => by rw [e] at hScn; exact hScn hSb
                rcases last_ex (fun g => OnL X k g) b with hn | ⟨e, he1, he2, he3⟩
                · exact absurd hoa (hn a h1)
                · have heb := ((A.part (j := b) (by omega)).hasBy k hk).2 e he1 ⟨trivial, he2⟩ (fun i' h3 h4 h5 => he3 i' h3 h4 h5.2)
                  obtain ⟨n, l, d, _, _, _, R, _⟩ := A.at h2
                  have hg := R.give hb2
                  have hwb : (X b).which.toNat = k := by have := hob.2; omega
                  rw [hwb, heb] at hg
                  simp only [Option.getD_some] at hg
                  split at hg
                  · rename_i hk1'
                    have hTe : T e = T b := by simpa using hg
                    have hSe := C.own e b he1 h2 hSb hTe
                    have hce : c < e := by
                      rcases Nat.lt_or_ge c e with h7 | h7
                      · exact h7
                      · rcases Nat.lt_or_ge e c with h8 | h8
                        · have hcb' : c < b := by omega
                          exact absurd hc3 (he3 c h8 hcb')
                        · have : e = c := by omega
                          subst this
                          exact absurd hSe hScn
                    exact ⟨e, hce, by omega, hSe, hk1', he2.2⟩
                  · cases hg
            obtain ⟨b', hb1, hb2, hb3, hb4, hb5⟩ := htk
            exact hScn (C.give a b' c k (by omega) (by omega) hb3 hSa hb4 hb5 hk1 hoa.2 (by omega) (by omega) hc6 hc5 hc3.2 (fun g h5 h6 h7 => hc4 g (by omega) h6 ⟨.inr h7.2.1, h7.2.2⟩))
        rw [b2 a (by omega) ⟨hSa, hoa⟩ hno, if_pos hk1, hTa]; rfl
      · cases h
theorem upto_held {N : Nat} {T : Nat → Nat} {X : Nat → Stp} {ws : Nat → Wd} (A : Along N T X ws) {S : Nat → Bool} (C : ClosedN N T X S) {j t : Nat} (hj : j ≤ N) (U : UpTo N T S j t) : heldL (partW (ws 0) T S N).has t = heldL (ws j).has t := by
  unfold heldL
  apply List.filter_congr
  intro k hk
  exact decide_eq_decide.2 (upto_has A C hj U (List.mem_range.1 hk))
/-- A thread that has a lock has moved. -/
theorem has_moved {N : Nat} {T : Nat → Nat} {X : Nat → Stp} {ws : Nat → Wd} (A : Along N T X ws) {j t k : Nat} (hj : j ≤ N) (hk : k < 6) (h : (ws j).has[k]?.getD none = some t) : ∃ i, i < j ∧ T i = t := by
  obtain ⟨a1, a2⟩ := (A.part (j := j) hj).hasBy k hk
  rcases last_ex (fun i => OnL X k i) j with h1 | ⟨a, ha, hoa, hla⟩
  · rw [a1 (fun i hi h4 => h1 i hi h4.2), A.has0 k hk] at h
    simp at h
  · rw [a2 a ha ⟨trivial, hoa⟩ (fun i' h3 h4 h5 => hla i' h3 h4 h5.2)] at h
    simp only [Option.getD_some] at h
    split at h
    · exact ⟨a, ha, by simpa using h⟩
    · cases h
theorem bornAfter_keep {born : List Bool} {x : Stp} {t : Nat} (h : born[t]? = some true) : (bornAfter born x)[t]? = some true := by
  unfold bornAfter
  split
  · rw [List.getElem?_set]
    split
    · rename_i e
      subst e
      rw [if_pos (List.getElem?_eq_some_iff.1 h).1]
    · exact h
  · exact h
/-- Who has moved in the part is born at its end. -/
theorem part_born {N : Nat} {T : Nat → Nat} {X : Nat → Stp} {ws : Nat → Wd} (A : Along N T X ws) {S : Nat → Bool} (C : ClosedN N T X S) {i : Nat} (hi : i < N) (hS : S i = true) : (partW (ws 0) T S N).born[T i]? = some true := by
  have M := sim_all A C N (Nat.le_refl _)
  have hr := M.ready i hi hS
  have hpi := M.prog i (by omega)
  obtain ⟨n, l, d, hA, _⟩ := stateOf_at _ _ (by rw [hr]; decide) (by rw [hr]; decide) (M.inv i (by omega)).good (by rw [hpi]; exact A.lt i hi)
  have step : ∀ d, i + d ≤ N → (partW (ws 0) T S (i + d)).born[T i]? = some true := by
    intro d
    induction d with
    | zero => intro _; exact hA.born
    | succ d ih =>
      intro hd
      by_cases hp : S (i + d) = true
      · obtain ⟨n, l, _, hP, _⟩ := M.part.yes (i + d) (by omega) hp
        rw [← Nat.add_assoc, hP.born]
        exact bornAfter_keep (ih (by omega))
      · rw [← Nat.add_assoc, M.part.no (i + d) (by omega) hp]; exact ih (by omega)
  have := step (N - i) (by omega)
  rwa [show i + (N - i) = N by omega] at this
end Go.Proofs.YtdfndcbakcmgiabDoor
namespace Go.Proofs.YtdfndcbakcmgiabDoor

/-! The least closed set is there. -/
theorem givenL_in (log : List Ev) (t : Int) (u : Nat) : ∀ (d k : Nat), log.length - k = d → ∀ i : Nat, givenL log t u k = i → i < log.length := by
  intro d
  induction d with
  | zero =>
    intro k hd i hi
    rw [givenL, if_neg (by omega)] at hi
    omega
  | succ d ih =>
    intro k hd i hi
    rw [givenL, if_pos (by omega)] at hi
    split at hi
    · omega
    · exact ih (k + 1) (by omega) i hi
theorem need_lt {log : List Ev} {m : List Bool} {j i : Nat} (h : Need log m j i) (hj : j < log.length) : i < log.length := by
  cases h with
  | ahead h _ => omega
  | flag b u _ _ _ hf =>
    rcases flagL_lt log u j with h | ⟨i', h, hi⟩
    · omega
    · omega
  | give b a u k _ _ _ _ _ _ _ _ hg => exact givenL_in log _ u _ _ rfl i hg
theorem close_ex (log : List Ev) (hl : log.length ≤ 60) : ∀ (n : Nat) (m : List Bool), cntF m = n → m.length = 60 → (∀ j : Nat, m[j]? = some true → j < log.length) → ∃ m', MidS log m m' ∧ ClosedS log m' := by
  intro n
  induction n with
  | zero =>
    intro m hn hm hin
    refine ⟨m, MidS.refl _ _, fun j hj i hN => ?_⟩
    have hi := need_lt hN (hin j hj)
    cases hv : m[i]? with
    | none => rw [List.getElem?_eq_none_iff] at hv; omega
    | some b =>
      cases b with
      | true => rfl
      | false => have := cntF_set m i hv; omega
  | succ n ih =>
    intro m hn hm hin
    by_cases hc : ClosedS log m
    · exact ⟨m, MidS.refl _ _, hc⟩
    · simp only [ClosedS, ClosedAt, Classical.not_forall] at hc
      obtain ⟨j, hj, i, hN, hne⟩ := hc
      have hi := need_lt hN (hin j hj)
      have hf : m[i]? = some false := by
        cases hv : m[i]? with
        | none => rw [List.getElem?_eq_none_iff] at hv; omega
        | some b =>
          cases b with
          | true => exact absurd hv hne
          | false => rfl
      have hcs := cntF_set m i hf
      obtain ⟨m', h1, h2⟩ := ih (m.set i true) (by omega) (by simpa using hm) (fun k hk => by
        rw [List.getElem?_set] at hk
        split at hk
        · omega
        · exact hin k hk)
      exact ⟨m', (MidS.add hj hN).trans h1, h2⟩
theorem closeF_spec (log : List Ev) (hl : log.length ≤ 60) (A : List Nat) (hA : ∀ i ∈ A, i < log.length) : ∃ m, MidS log (markE 60 (intN A)) m ∧ ClosedS log m ∧ listB m log.length = closeF log A := by
  obtain ⟨m, h1, h2⟩ := close_ex log hl _ (markE 60 (intN A)) rfl (markE_len _ _) (fun j hj => by
    obtain ⟨_, y, hy, e⟩ := (markE_iff 60 _ j).1 hj
    obtain ⟨i, hi, rfl⟩ := List.mem_map.1 hy
    have := hA i hi
    have e2 : ((i : Nat) : Int).toNat = i := Int.toNat_natCast i
    omega)
  exact ⟨m, h1, h2, closeF_eq h1 h2⟩

/-! An ask, in the world where it is made. -/
structure AskAt (N : Nat) (T : Nat → Nat) (ws : Nat → Wd) (x : Aq) (j : Nat) : Prop where
  le : j ≤ N
  ev : (x.ev = some j ∧ j < N ∧ T j = x.th) ∨ (x.ev = none ∧ j = N)
  lt : x.th < (ws 0).prog.length
  k6 : x.k < 6
  at' : ∃ l, At (ws j) x.th x.pl l (lockT x.k)
  hl : x.hl = heldL (ws j).has x.th
theorem ask_of {W : Wd} (G : W.Good) {t : Nat} {n : Nat} {l : List ByteArray} {d : ByteArray} (A : At W t n l d) (hk : (stpOf d).kind = 1) (o : Option Nat) : (aqE (evAt W t) o).th = t ∧ (aqE (evAt W t) o).k < 6 ∧ At W t (aqE (evAt W t) o).pl l (lockT (aqE (evAt W t) o).k) ∧ (aqE (evAt W t) o).hl = heldL W.has t := by
  have e1 : (evAt W t).txt = d := by simp [evAt, A.prog, A.place, A.txt]
  have e2 : (evAt W t).place = (n : Int) := by simp [evAt, A.place]
  obtain ⟨k, hk6, hw, hd⟩ := lock_txt (G.dok t l n d A.prog A.txt) hk
  have hkk : (aqE (evAt W t) o).k = k := by simp only [aqE, e1, hw, Int.toNat_natCast]
  have hpl : (aqE (evAt W t) o).pl = n := by simp only [aqE, e2, Int.toNat_natCast]
  refine ⟨by simp [aqE, evAt], by rw [hkk]; exact hk6, by rw [hkk, hpl, ← hd]; exact A, ?_⟩
  show hlOf (holdsOf W t) = _
  rw [holdsOf_held, hlOf_let _ (held6 _ _)]
theorem ask_at (ths : List ByteArray) (I0 : (beginW ths).Inv) {WE : Wd} {ms : List Nat} (h : goL (beginW ths) ms = some WE) {x : Aq} (hx : x ∈ aqsW WE) : ∃ j, AskAt ms.length (thAt ms) (worldAt (beginW ths) ms) x j := by
  have hl0 : (beginW ths).log = [] := by simp [beginW, madeW]
  obtain ⟨hln, hlg⟩ := log_of h hl0 ms.length (Nat.le_refl _)
  rw [worldAt_end h] at hln hlg
  have A := along_of ths I0 h
  have hpE : WE.prog = (worldAt (beginW ths) ms 0).prog := by rw [← A.prog ms.length (Nat.le_refl _), worldAt_end h]
  rcases aqsW_mem.1 hx with ⟨i, e, h1, h2, rfl⟩ | ⟨e, h1, rfl⟩
  · have hi : i < ms.length := by rw [← hln]; exact (List.getElem?_eq_some_iff.1 h1).1
    rw [hlg i hi] at h1
    cases h1
    obtain ⟨n, l, d, hA, hd, _, _, _⟩ := A.at hi
    have e1 : (evAt (worldAt (beginW ths) ms i) (thAt ms i)).txt = d := by simp [evAt, hA.prog, hA.place, hA.txt]
    have hk : (stpOf d).kind = 1 := by have := of_decide_eq_true h2; rw [e1] at this; exact this
    obtain ⟨a1, a2, a3, a4⟩ := ask_of (A.inv i (by omega)).good hA hk (some i)
    exact ⟨i, by omega, .inl ⟨rfl, hi, a1.symm⟩, by rw [a1]; exact A.lt i hi, a2, ⟨l, by rw [a1]; exact a3⟩, by rw [a1]; exact a4⟩
  · have hk := (wantsE_ok (by rw [← worldAt_end h]; exact (A.inv ms.length (Nat.le_refl _)).good) e h1).2
    simp only [wantsE, List.mem_map, List.mem_filter, List.mem_range, decide_eq_true_iff] at h1
    obtain ⟨t, ⟨ht, h2⟩, rfl⟩ := h1
    have G : WE.Good := by rw [← worldAt_end h]; exact (A.inv ms.length (Nat.le_refl _)).good
    obtain ⟨n, l, d, hA, _⟩ := stateOf_at WE t (by omega) (by omega) G ht
    have e1 : (evAt WE t).txt = d := by simp [evAt, hA.prog, hA.place, hA.txt]
    rw [e1] at hk
    obtain ⟨a1, a2, a3, a4⟩ := ask_of G hA hk none
    refine ⟨ms.length, Nat.le_refl _, .inr ⟨rfl, rfl⟩, by rw [a1, ← hpE]; exact ht, a2, ⟨l, ?_⟩, ?_⟩
    · rw [worldAt_end h, a1]; exact a3
    · rw [worldAt_end h, a1]; exact a4

theorem lastN_none {l : List Mv} {t : Nat} : ∀ {n : Nat}, lastN l t n = none → ∀ i, i < n → ∀ v, l[i]? = some v → v.th ≠ t
  | 0, _, i, hi, _, _ => by omega
  | n + 1, h, i, hi, v, hv => by
    rw [lastN] at h
    split at h
    · cases h
    · rename_i hn
      by_cases he : i = n
      · subst he
        rw [hv] at hn
        simpa using hn
      · exact lastN_none h i (by omega) v hv
theorem lastN_max {l : List Mv} {t : Nat} : ∀ {n q : Nat}, lastN l t n = some q → ∀ i, q < i → i < n → ∀ v, l[i]? = some v → v.th ≠ t
  | 0, q, h, _, _, _, _, _ => by simp [lastN] at h
  | n + 1, q, h, i, h1, h2, v, hv => by
    rw [lastN] at h
    split at h
    · cases h; omega
    · rename_i hn
      by_cases he : i = n
      · subst he
        rw [hv] at hn
        simpa using hn
      · exact lastN_max h i h1 (by omega) v hv

/-- A thread of a ring: what it is at, whom it waits for. -/
structure RingAt (V : Wd) (x y : Aq) : Prop where
  at' : ∃ l, At V x.th x.pl l (lockT x.k)
  k6 : x.k < 6
  hl : heldL V.has x.th = x.hl
  has : V.has[x.k]?.getD none = some y.th
  ne : y.th ≠ x.th
  lt : x.th < V.prog.length

theorem sure_ring (ths : List ByteArray) (I0 : (beginW ths).Inv) {WE : Wd} {ms : List Nat} (h : goL (beginW ths) ms = some WE) (hl : WE.log.length ≤ 60) (p : List Nat) (hin : ∀ i ∈ p, i < (aqsW WE).length) (hc : CircP (aqsW WE) p)
    (hb : boundB (ringOf (aqsW WE) p) (closeF WE.log (aheadL (WE.log.map mvE) (ringOf (aqsW WE) p))) = false) :
    ∃ V, goL (beginW ths) (thsE (WE.log.map mvE) (closeF WE.log (aheadL (WE.log.map mvE) (ringOf (aqsW WE) p)))) = some V ∧ V.Inv ∧ V.prog = (beginW ths).prog ∧
      ∀ i, i < p.length → RingAt V (aqOf (aqsW WE) (pAt p i)) (aqOf (aqsW WE) (pAt p ((i + 1) % p.length))) := by
  have hl0 : (beginW ths).log = [] := by simp [beginW, madeW]
  obtain ⟨hln, hlg⟩ := log_of h hl0 ms.length (Nat.le_refl _)
  rw [worldAt_end h] at hln hlg
  have A := along_of ths I0 h
  have hw0 : worldAt (beginW ths) ms 0 = beginW ths := by simp [worldAt, goL]
  have hml : (WE.log.map mvE).length = WE.log.length := List.length_map ..
  obtain ⟨m, hM, hCl, hF⟩ := closeF_spec WE.log hl (aheadL (WE.log.map mvE) (ringOf (aqsW WE) p)) (fun i hi => by have := aheadL_in _ _ i hi; omega)
  rw [← hF] at hb ⊢
  have C := closedN_of ths I0 h m hCl
  have hth : ∀ i, i < ms.length → (WE.log.map mvE)[i]? = some (mvE (evAt (worldAt (beginW ths) ms i) (thAt ms i))) := fun i hi => by rw [List.getElem?_map, hlg i hi]; rfl
  have hthv : ∀ i, i < ms.length → (mvE (evAt (worldAt (beginW ths) ms i) (thAt ms i))).th = thAt ms i := fun i hi => by simp [mvE, evAt]
  have hsch : thsE (WE.log.map mvE) (listB m WE.log.length) = ((List.range ms.length).filter fun i => m[i]?.getD false).map (thAt ms) := by
    rw [thsE, listB, hln]
    refine List.map_congr_left fun i hi => ?_
    have hil : i < ms.length := by simpa using (List.mem_filter.1 hi).1
    rw [hth i hil]
    exact hthv i hil
  have hgo := goL_part A C ms.length (Nat.le_refl _)
  rw [hw0] at hgo
  have M := sim_all A C ms.length (Nat.le_refl _)
  rw [hw0] at M
  have hMi := M.inv ms.length (Nat.le_refl _)
  have hMp := M.prog ms.length (Nat.le_refl _)
  rw [hw0] at hMp
  -- each ask of the ring: just its thread's events below it are in the set
  have hup : ∀ x ∈ ringOf (aqsW WE) p, ∀ j, AskAt ms.length (thAt ms) (worldAt (beginW ths) ms) x j → UpTo ms.length (thAt ms) (fun i => m[i]?.getD false) j x.th := by
    intro x hx j hj
    have hlq : ∀ q, lastQ (WE.log.map mvE) x = some q → m[q]?.getD false = true := fun q hq => by
      have hmem : q ∈ aheadL (WE.log.map mvE) (ringOf (aqsW WE) p) := List.mem_filterMap.2 ⟨x, hx, hq⟩
      have hqb := aheadL_in _ _ q hmem
      refine getD_true.2 (hM.sub q ((markE_iff 60 _ q).2 ⟨by omega, (q : Int), List.mem_map.2 ⟨q, hmem, rfl⟩, Int.toNat_natCast q⟩))
    have hto : toN x (WE.log.map mvE).length = j := by
      rw [toN, hml, hln]
      rcases hj.ev with ⟨e1, e2, _⟩ | ⟨e1, e2⟩
      · rw [e1]; exact Nat.min_eq_left (by omega)
      · rw [e1, e2]
    refine ⟨fun i hi hT => ?_, fun i h1 h2 hT hS => ?_⟩
    · have hin' : i < ms.length := by have := hj.le; omega
      cases hq : lastN (WE.log.map mvE) x.th j with
      | none => exact absurd ((hthv i hin').trans hT) (lastN_none hq i hi _ (hth i hin'))
      | some q =>
        have hSq := hlq q (by rw [lastQ, hto]; exact hq)
        obtain ⟨q1, q2⟩ := lastN_lt hq
        have hqn : q < ms.length := by have := hj.le; omega
        have hTq : thAt ms q = x.th := by
          rw [hth q hqn] at q2
          simp only [Option.map_some, Option.getD_some, decide_eq_true_iff] at q2
          rw [← q2, hthv q hqn]
        have hiq : i ≤ q := Nat.le_of_not_lt fun hlt => absurd ((hthv i hin').trans hT) (lastN_max hq i hlt hi _ (hth i hin'))
        by_cases he : i = q
        · rw [he]; exact hSq
        · exact C.own i q (by omega) hqn hSq (by rw [hT, hTq])
    · rcases hj.ev with ⟨e1, e2, e3⟩ | ⟨e1, e2⟩
      · have hSj : m[j]?.getD false = true := by
          by_cases he : j = i
          · rw [he]; exact hS
          · exact C.own j i (by omega) h2 hS (by rw [e3, hT])
        have : boundB (ringOf (aqsW WE) p) (listB m WE.log.length) = true := by
          rw [boundB, decide_eq_true_iff]
          exact ⟨x, hx, j, List.mem_filter.2 ⟨by rw [hln]; simpa using e2, hSj⟩, e1⟩
        rw [hb] at this
        cases this
      · omega
  refine ⟨_, by rw [hsch]; exact hgo, hMi, hMp, ?_⟩
  have hmem : ∀ i, i < p.length → aqOf (aqsW WE) (pAt p i) ∈ aqsW WE ∧ aqOf (aqsW WE) (pAt p i) ∈ ringOf (aqsW WE) p := fun i hi =>
    ⟨aqOf_mem (hin _ (pAt_mem hi)), List.mem_map.2 ⟨_, pAt_mem hi, rfl⟩⟩
  have hheld : ∀ i, i < p.length → heldL (partW (beginW ths) (thAt ms) (fun i => m[i]?.getD false) ms.length).has (aqOf (aqsW WE) (pAt p i)).th = (aqOf (aqsW WE) (pAt p i)).hl := fun i hi => by
    obtain ⟨j, hj⟩ := ask_at ths I0 h (hmem i hi).1
    have U := hup _ (hmem i hi).2 j hj
    have := upto_held A C hj.le U
    rw [hw0] at this
    rw [this, ← hj.hl]
  obtain ⟨h1, hcc⟩ := hc
  intro i hi
  have hi' : (i + 1) % p.length < p.length := Nat.mod_lt _ (by omega)
  obtain ⟨j, hj⟩ := ask_at ths I0 h (hmem i hi).1
  have U := hup _ (hmem i hi).2 j hj
  obtain ⟨l, hA⟩ := hj.at'
  have hpl := upto_place A C hj.le hj.lt U
  rw [hw0] at hpl
  -- it has moved: something stands in its holds
  have hprev : ∃ k, k ∈ (aqOf (aqsW WE) (pAt p i)).hl := by
    have hpi : ((i + p.length - 1) % p.length) < p.length := Nat.mod_lt _ (by omega)
    have := (hcc _ hpi).1
    have he : ((i + p.length - 1) % p.length + 1) % p.length = i := by
      rw [Nat.mod_add_mod, show i + p.length - 1 + 1 = i + p.length by omega, Nat.add_mod_right, Nat.mod_eq_of_lt hi]
    rw [he] at this
    obtain ⟨k, _, hk⟩ := of_decide_eq_true this
    exact ⟨k, hk⟩
  obtain ⟨k, hk⟩ := hprev
  rw [hj.hl] at hk
  obtain ⟨hk6, hkh⟩ := heldL_mem.1 hk
  obtain ⟨i2, hi2, hT2⟩ := has_moved A hj.le hk6 hkh
  have hS2 := U.pre i2 hi2 hT2
  have hborn := part_born A C (i := i2) (by have := hj.le; omega) hS2
  rw [hw0, hT2] at hborn
  refine ⟨⟨l, hborn, by rw [hpl]; exact hA.place, ?_, hA.txt⟩, hj.k6, hheld i hi, ?_, ?_, by rw [hMp, ← hw0]; exact hj.lt⟩
  · rw [hMp, ← hw0, ← A.prog j hj.le]; exact hA.prog
  · have := (hcc i hi).1
    obtain ⟨k', hk', hk2⟩ := of_decide_eq_true this
    rw [List.mem_singleton] at hk'
    subst hk'
    rw [← hheld _ hi'] at hk2
    exact (heldL_mem.1 hk2).2
  · have hne : (i + 1) % p.length ≠ i := by
      rcases Nat.lt_or_ge (i + 1) p.length with h2 | h2
      · rw [Nat.mod_eq_of_lt h2]; omega
      · rw [show i + 1 = p.length by omega, Nat.mod_self]; omega
    rcases Nat.lt_or_gt_of_ne hne with h2 | h2
    · have := (hcc i hi).2.2 _ h2
      simp only [apartB, Bool.and_eq_true, Bool.not_eq_true', decide_eq_false_iff_not] at this
      exact this.1
    · have := (hcc _ hi').2.2 _ h2
      simp only [apartB, Bool.and_eq_true, Bool.not_eq_true', decide_eq_false_iff_not] at this
      exact fun e => this.1 e.symm
end Go.Proofs.YtdfndcbakcmgiabDoor
namespace Go.Proofs.YtdfndcbakcmgiabDoor

/-! A ring holds for good. -/
structure StuckAt (W : Wd) (R : List Nat) (t : Nat) (n : Nat) (l : List ByteArray) (k u : Nat) : Prop where
  at' : At W t n l (lockT k)
  k6 : k < 6
  has : W.has[k]?.getD none = some u
  mem : u ∈ R
  ne : u ≠ t
  lt : t < W.prog.length
def StuckR (W : Wd) (R : List Nat) : Prop := ∀ t ∈ R, ∃ n l k u, StuckAt W R t n l k u
theorem lockT_byte (k : Nat) (hk : k < 6) : byteI (lockT k) 0 = 97 + k := by
  rw [← byteI_in (show 0 < (lockT k).size from Nat.one_pos)]
  show ((UInt8.ofNat (97 + k)).toNat : Int) = _
  rw [UInt8.toNat_ofNat']; omega
theorem lock_state {W : Wd} {t n : Nat} {l : List ByteArray} {k u : Nat} (A : At W t n l (lockT k)) (hk : k < 6) (hh : W.has[k]?.getD none = some u) (hne : u ≠ t) : stateOf W t = 2 ∧ waitsOf W t = u := by
  have hb := lockT_byte k hk
  have hd : doSt W t (lockT k) = 2 := by
    rw [doSt, if_pos (by omega), hb, show ((97 : Int) + k - 97).toNat = k by omega, hh]
    simp [lockSt, hne]
  have hs : stateOf W t = 2 := by
    rw [← hd]; simp [stateOf, A.born, A.place, A.prog, A.txt]
  refine ⟨hs, ?_⟩
  have e : (W.prog[t]?.getD [])[W.place[t]?.getD 0]?.getD ⟨#[]⟩ = lockT k := by rw [A.prog, A.place]; simp [A.txt]
  rw [waitsOf, if_pos hs, e, hb, show ((97 : Int) + k - 97).toNat = k by omega, hh]
theorem StuckAt.two {W : Wd} {R : List Nat} {t n : Nat} {l : List ByteArray} {k u : Nat} (h : StuckAt W R t n l k u) : stateOf W t = 2 := (lock_state h.at' h.k6 h.has h.ne).1
theorem stuck_move {W : Wd} (I : W.Inv) {R : List Nat} (h : StuckR W R) {t : Nat} (ht : t < W.prog.length) (hs : stateOf W t = 1) : t ∉ R ∧ StuckR (moveT W t) R := by
  have htR : t ∉ R := fun hm => by
    obtain ⟨n, l, k, u, h1⟩ := h t hm
    have := h1.two
    omega
  refine ⟨htR, fun r hr => ?_⟩
  obtain ⟨n, l, k, u, h1⟩ := h r hr
  have hrt : r ≠ t := fun e => htR (e ▸ hr)
  obtain ⟨n', l', d', A', _⟩ := stateOf_at W t (by omega) (by omega) I.good ht
  have P := moveW_parts I.good A' (holdsOf W t)
  have hR := (rdy_iff I.good A').1 hs
  have hmv : moveT W t = moveW W t n' l' d' (holdsOf W t) := moveT_at A'
  refine ⟨n, l, k, u, ⟨?_, ?_, ?_, ?_⟩, h1.k6, ?_, h1.mem, h1.ne, by rw [moveT_prog]; exact h1.lt⟩
  · rw [hmv, P.born]; exact bornAfter_keep h1.at'.born
  · rw [hmv, P.place, List.getElem?_set, if_neg (Ne.symm hrt)]; exact h1.at'.place
  · rw [moveT_prog]; exact h1.at'.prog
  · exact h1.at'.txt
  · rw [hmv, P.has]
    unfold hasAfter
    split
    · rename_i h2
      have hn := hR.take h2
      rw [List.getElem?_set]
      split
      · rename_i e
        rw [e, h1.has] at hn
        cases hn
      · exact h1.has
    · split
      · rename_i h2
        have hn := hR.give h2
        rw [List.getElem?_set]
        split
        · rename_i e
          rw [e, h1.has] at hn
          have : u = t := by simpa using hn
          exact absurd (this ▸ h1.mem) htR
        · exact h1.has
      · exact h1.has
theorem runs_stuck {p : ByteArray} {W WE : Wd} {j : Nat} {ms : List Nat} {h : Int} (r : RunsTo p W j ms h WE) (I : W.Inv) {R : List Nat} (hR : StuckR W R) (hne : R ≠ []) : (∀ t ∈ ms, t ∉ R) ∧ h ≠ 1 := by
  induction r with
  | @stop W j hm =>
    refine ⟨(fun t ht => by cases ht), ?_⟩
    obtain ⟨t, ht⟩ := List.exists_mem_of_ne_nil R hne
    obtain ⟨n, l, k, u, h1⟩ := hR t ht
    have : aliveW W = true := (mayLoop_al W _ 0 [] false rfl).2 (.inr ⟨t, Nat.zero_le _, h1.lt, .inl h1.two⟩)
    rw [this, if_pos rfl]; decide
  | fault _ _ => exact ⟨(fun t ht => by cases ht), by decide⟩
  | move hm hs ht _ ih =>
    obtain ⟨h1, h2⟩ := stuck_move I hR ht hs
    obtain ⟨h3, h4⟩ := ih (moveT_inv I ht hs) h2
    refine ⟨fun t hm2 => ?_, h4⟩
    rcases List.mem_cons.1 hm2 with rfl | hm2
    · exact h1
    · exact h3 t hm2
/-- The threads of a ring. -/
theorem ring_stuck {V : Wd} {la : List Aq} {p : List Nat} (hp : p ≠ []) (h : ∀ i, i < p.length → RingAt V (aqOf la (pAt p i)) (aqOf la (pAt p ((i + 1) % p.length)))) : StuckR V (p.map fun i => (aqOf la i).th) := by
  intro t ht
  obtain ⟨q, hq, rfl⟩ := List.mem_map.1 ht
  obtain ⟨i, hi, rfl⟩ := mem_pAt hq
  have r := h i hi
  obtain ⟨l, hA⟩ := r.at'
  exact ⟨_, l, _, _, hA, r.k6, r.has, List.mem_map.2 ⟨_, pAt_mem (Nat.mod_lt _ (List.length_pos_iff.2 hp)), rfl⟩, r.ne, r.lt⟩
end Go.Proofs.YtdfndcbakcmgiabDoor
