import Derived.Test.YtdfndcbakcmgiabDoorK1
import Derived.Test.YtdfndcbakcmgiabDoorN1
import Derived.Test.YtdfndcbakcmgiabDoorW
import Derived.Test.YtdfndcbakcmgiabDoorT28
import Derived.Test.YtdfndcbakcmgiabDoorU18
namespace Go.Proofs.YtdfndcbakcmgiabDoor

/-! Schedules in their order, as numbers: a shorter one is less; of one length by their digits. -/
def sv (l : List Nat) : Nat := l.foldl (fun a t => a * 10 + t + 1) 0
theorem sv_snoc (l : List Nat) (t : Nat) : sv (l ++ [t]) = sv l * 10 + t + 1 := by simp [sv, List.foldl_append]
theorem sv_nil : sv [] = 0 := rfl

/-! The same state goes on in the same way. -/
theorem progL_eq {W V : Wd} (h : V.prog = W.prog) : progL V = progL W := by rw [progL, progL, h]
theorem same_state {W V : Wd} (G : W.Good) (G' : V.Good) (hp : V.prog = W.prog) (hm : msOf W = msOf V) {t : Nat} (ht : t < W.prog.length) : stateOf V t = stateOf W t ∧ waitsOf V t = waitsOf W t := by
  have h1 := look_sim G ht
  have h2 := look_sim G' (t := t) (by rw [hp]; exact ht)
  rw [progL_eq hp, ← hm, h1] at h2
  simp only [Prod.mk.injEq] at h2
  exact ⟨h2.1.symm, h2.2.symm⟩
theorem same_move {W V : Wd} (I : W.Inv) (I' : V.Inv) (hp : V.prog = W.prog) (hm : msOf W = msOf V) {t : Nat} (ht : t < W.prog.length) (hs : stateOf W t = 1) : msOf (moveT V t) = msOf (moveT W t) := by
  have h1 := step_sim I ht
  have h2 := step_sim I' (t := t) (by rw [hp]; exact ht)
  rw [progL_eq hp, ← hm, h1, if_pos hs, if_pos (by rw [(same_state I.good I'.good hp hm ht).1]; exact hs)] at h2
  exact (Option.some.inj h2).symm
theorem ringF_same {W V : Wd} (G : W.Good) (G' : V.Good) (hp : V.prog = W.prog) (hm : msOf W = msOf V) (t : Nat) : ∀ (f a : Nat), a < W.prog.length → ringF V t f a = ringF W t f a
  | 0, _, _ => rfl
  | f + 1, a, ha => by
    obtain ⟨h1, h2⟩ := same_state G G' hp hm ha
    rw [ringF, ringF, h1, h2]
    by_cases hs : stateOf W a = 2
    · obtain ⟨u, hu, hw⟩ := waits_lt G ha hs
      rw [if_pos hs, if_pos hs, hw, Int.toNat_natCast, ringF_same G G' hp hm t f u hu]
    · rw [if_neg hs, if_neg hs]
theorem ringW_same {W V : Wd} (G : W.Good) (G' : V.Good) (hp : V.prog = W.prog) (hm : msOf W = msOf V) : ringW V = ringW W := by
  apply Bool.eq_iff_iff.2
  rw [ringW, ringW, hp, List.any_eq_true, List.any_eq_true]
  constructor
  · rintro ⟨t, h1, h2⟩
    exact ⟨t, h1, by rw [← ringF_same G G' hp hm t _ t (List.mem_range.1 h1)]; exact h2⟩
  · rintro ⟨t, h1, h2⟩
    exact ⟨t, h1, by rw [ringF_same G G' hp hm t _ t (List.mem_range.1 h1)]; exact h2⟩

/-! The line: each state with the least schedule that leads to it. -/
structure SB (W0 : Wd) (Q : List Nd) (b : Nat) : Prop where
  ok : ∀ x ∈ Q, x.Ok W0
  fst : ∃ x, Q[0]? = some x ∧ x.l = [] ∧ msOf x.W = msOf W0
  asc : Q.Pairwise fun x y => sv x.l < sv y.l ∧ msOf x.W ≠ msOf y.W
  bd : ∀ y ∈ Q, sv y.l < b
def ExpQ (Q : List Nd) (x : Nd) (t : Nat) : Prop := stateOf x.W t = 1 → ∃ y ∈ Q, msOf y.W = msOf (moveT x.W t) ∧ sv y.l ≤ sv (x.l ++ [t])
theorem ExpQ.more {Q : List Nd} {x : Nd} {t : Nat} (h : ExpQ Q x t) (r : List Nd) : ExpQ (Q ++ r) x t := fun hs => by
  obtain ⟨y, h1, h2⟩ := h hs
  exact ⟨y, List.mem_append_left _ h1, h2⟩
theorem SB.up {W0 : Wd} {Q : List Nd} {b b' : Nat} (h : SB W0 Q b) (hb : b ≤ b') : SB W0 Q b' := ⟨h.ok, h.fst, h.asc, fun y hy => Nat.lt_of_lt_of_le (h.bd y hy) hb⟩
theorem kid_sb {W0 : Wd} {x : Nd} (hx : x.Ok W0) {Q : List Nd} {t : Nat} (ht : t < W0.prog.length) (h : SB W0 Q (sv x.l * 10 + t + 1)) :
    SB W0 (kidQ x Q t) (sv x.l * 10 + (t + 1) + 1) ∧ (∃ r, kidQ x Q t = Q ++ r) ∧ ExpQ (kidQ x Q t) x t := by
  unfold kidQ
  by_cases hs : stateOf x.W t = 1
  · rw [if_pos hs]
    by_cases he : ∃ y ∈ Q, msOf y.W = msOf (moveT x.W t)
    · rw [putQ_yes (x := ⟨moveT x.W t, x.l ++ [t]⟩) he]
      refine ⟨h.up (by omega), ⟨[], by simp⟩, fun _ => ?_⟩
      obtain ⟨y, hy, hm⟩ := he
      have := h.bd y hy
      exact ⟨y, hy, hm, by rw [sv_snoc]; omega⟩
    · rw [putQ_no (x := ⟨moveT x.W t, x.l ++ [t]⟩) he]
      have hk := hx.kid ht hs
      refine ⟨⟨fun y hy => ?_, ?_, ?_, fun y hy => ?_⟩, ⟨_, rfl⟩, fun _ => ⟨_, List.mem_append_right _ (List.mem_singleton.2 rfl), rfl, Nat.le_refl _⟩⟩
      · rcases List.mem_append.1 hy with hy | hy
        · exact h.ok y hy
        · rw [List.mem_singleton.1 hy]; exact hk
      · obtain ⟨z, h1, h2⟩ := h.fst
        exact ⟨z, by rw [List.getElem?_append_left (List.getElem?_eq_some_iff.1 h1).1]; exact h1, h2⟩
      · rw [List.pairwise_append]
        refine ⟨h.asc, List.pairwise_singleton _ _, fun y hy z hz => ?_⟩
        rw [List.mem_singleton.1 hz]
        have := h.bd y hy
        exact ⟨by rw [sv_snoc]; omega, fun e => he ⟨y, hy, e⟩⟩
      · rcases List.mem_append.1 hy with hy | hy
        · have := h.bd y hy; omega
        · rw [List.mem_singleton.1 hy, sv_snoc]; omega
  · rw [if_neg hs]
    exact ⟨h.up (by omega), ⟨[], by simp⟩, fun h1 => absurd h1 hs⟩
theorem kids_sb {W0 : Wd} {x : Nd} (hx : x.Ok W0) : ∀ (d t : Nat) (Q : List Nd), t + d ≤ W0.prog.length → SB W0 Q (sv x.l * 10 + t + 1) →
    SB W0 (kidsF x d t Q) (sv x.l * 10 + (t + d) + 1) ∧ (∃ r, kidsF x d t Q = Q ++ r) ∧ ∀ u, t ≤ u → u < t + d → ExpQ (kidsF x d t Q) x u
  | 0, t, Q, _, h => ⟨h, ⟨[], by simp [kidsF]⟩, fun u h1 h2 => by omega⟩
  | d + 1, t, Q, hl, h => by
    obtain ⟨h1, ⟨r1, h2⟩, h3⟩ := kid_sb hx (t := t) (by omega) h
    obtain ⟨h4, ⟨r2, h5⟩, h6⟩ := kids_sb hx d (t + 1) (kidQ x Q t) (by omega) h1
    rw [kidsF]
    refine ⟨by rw [show t + (d + 1) = t + 1 + d by omega]; exact h4, ⟨r1 ++ r2, by rw [h5, h2, List.append_assoc]⟩, fun u hu1 hu2 => ?_⟩
    by_cases he : u = t
    · subst he
      rw [h5]; exact h3.more r2
    · exact h6 u (by omega) (by omega)

def SeenQ (W0 : Wd) (Q : List Nd) (k : Nat) : Prop := ∀ i x, i < k → Q[i]? = some x → ringW x.W = false ∧ ∀ t, t < W0.prog.length → ExpQ Q x t
theorem SeenQ.next {W0 : Wd} {Q r : List Nd} {k : Nat} (h : SeenQ W0 Q k) (hk : k < Q.length) (hx : ∀ x, Q[k]? = some x → ringW x.W = false ∧ ∀ t, t < W0.prog.length → ExpQ (Q ++ r) x t) : SeenQ W0 (Q ++ r) (k + 1) := fun i x hi hq => by
  rw [List.getElem?_append_left (by omega)] at hq
  by_cases he : i = k
  · subst he; exact hx x hq
  · obtain ⟨h1, h2⟩ := h i x (by omega) hq
    exact ⟨h1, fun t ht => (h2 t ht).more r⟩
/-- Every schedule leads to a state of the line, or there is an unseen one that comes no later. -/
theorem reach_q {W0 : Wd} (I0 : W0.Inv) {Q : List Nd} {k b : Nat} (h : SB W0 Q b) (hs : SeenQ W0 Q k) : ∀ (n : Nat) (m : List Nat) (V : Wd), m.length = n → goL W0 m = some V → (∃ y ∈ Q, msOf y.W = msOf V ∧ sv y.l ≤ sv m) ∨ ∃ i y, k ≤ i ∧ Q[i]? = some y ∧ sv y.l ≤ sv m := by
  intro n
  induction n with
  | zero =>
    intro m V hn hg
    obtain rfl : m = [] := List.length_eq_zero_iff.1 hn
    simp only [goL, Option.some.injEq] at hg
    subst hg
    obtain ⟨x, h1, h2, h3⟩ := h.fst
    exact .inl ⟨x, List.mem_of_getElem? h1, h3, by rw [h2]; exact Nat.le_refl _⟩
  | succ n ih =>
    intro m V hn hg
    obtain ⟨m', t, rfl⟩ : ∃ m' t, m = m' ++ [t] := ⟨m.dropLast, m.getLast (by intro e; rw [e] at hn; simp at hn), (List.dropLast_concat_getLast _).symm⟩
    rw [goL_snoc] at hg
    obtain ⟨V', hg', hc⟩ := Option.bind_eq_some_iff.1 hg
    obtain ⟨IV, hpV⟩ := goL_inv _ _ _ I0 hg'
    split at hc
    · rename_i hts
      obtain ⟨ht, hst⟩ := hts
      simp only [Option.some.injEq] at hc
      subst hc
      rw [hpV] at ht
      rcases ih m' V' (by simpa using hn) hg' with ⟨y, h1, h2, h3⟩ | ⟨i, y, h1, h2, h3⟩
      · obtain ⟨i, hi⟩ := List.getElem?_of_mem h1
        by_cases hik : i < k
        · have oy := h.ok y h1
          have hst' : stateOf y.W t = 1 := by rw [(same_state (V := y.W) IV.good oy.inv.good (by rw [oy.prog, hpV]) h2.symm (by rw [hpV]; exact ht)).1]; exact hst
          obtain ⟨z, h4, h5, h6⟩ := (hs i y hik hi).2 t ht hst'
          refine .inl ⟨z, h4, ?_, ?_⟩
          · rw [h5]
            exact same_move IV oy.inv (by rw [oy.prog, hpV]) h2.symm (by rw [hpV]; exact ht) hst
          · rw [sv_snoc] at h6 ⊢; omega
        · exact .inr ⟨i, y, by omega, hi, by rw [sv_snoc]; omega⟩
      · exact .inr ⟨i, y, h1, h2, by rw [sv_snoc]; omega⟩
    · cases hc

/-- What a search answers. -/
inductive Sought (W0 : Wd) (b : Nat) (r : List Nat × Int) : Prop
  | found (V : Wd) : r.2 = 1 → goL W0 r.1 = some V → ringW V = true → (∀ t ∈ r.1, t < W0.prog.length) → (∀ m U, goL W0 m = some U → ringW U = true → sv r.1 ≤ sv m) → Sought W0 b r
  | none : r.2 = 2 → r.1 = [] → (∀ m U, goL W0 m = some U → ringW U = false) → Sought W0 b r
  | short (Q : List Nd) : r.2 = 3 → r.1 = [] → (∀ x ∈ Q, x.Ok W0) → (Q.Pairwise fun x y => msOf x.W ≠ msOf y.W) → b < Q.length → Sought W0 b r
theorem none_of {W0 : Wd} (I0 : W0.Inv) {Q : List Nd} {k c : Nat} (h : SB W0 Q c) (hs : SeenQ W0 Q k) (hk : Q.length ≤ k) (m : List Nat) (U : Wd) (hg : goL W0 m = some U) : ringW U = false := by
  obtain ⟨IU, hpU⟩ := goL_inv _ _ _ I0 hg
  rcases reach_q I0 h hs _ m U rfl hg with ⟨y, h1, h2, _⟩ | ⟨i, y, h1, h2, _⟩
  · obtain ⟨i, hi⟩ := List.getElem?_of_mem h1
    have hil := (List.getElem?_eq_some_iff.1 hi).1
    have oy := h.ok y h1
    rw [ringW_same oy.inv.good IU.good (by rw [hpU, oy.prog]) h2]
    exact (hs i y (by omega) hi).1
  · have := (List.getElem?_eq_some_iff.1 h2).1
    omega
theorem asc_le {Q : List Nd} (h : Q.Pairwise fun x y => sv x.l < sv y.l ∧ msOf x.W ≠ msOf y.W) {i j : Nat} {x y : Nd} (hx : Q[i]? = some x) (hy : Q[j]? = some y) (hij : i ≤ j) : sv x.l ≤ sv y.l := by
  obtain ⟨hi, rfl⟩ := List.getElem?_eq_some_iff.1 hx
  obtain ⟨hj, rfl⟩ := List.getElem?_eq_some_iff.1 hy
  rcases Nat.lt_or_ge i j with hlt | hge
  · exact Nat.le_of_lt (List.pairwise_iff_getElem.1 h i j hi hj hlt).1
  · have : i = j := by omega
    subst this
    exact Nat.le_refl _
theorem srch_spec {W0 : Wd} (I0 : W0.Inv) (b : Nat) : ∀ (f : Nat) (Q : List Nd) (k c : Nat), f + k = b → SB W0 Q c → (∀ x, Q[k]? = some x → c ≤ sv x.l * 10 + 1) → SeenQ W0 Q k → Sought W0 b (srch b f Q k)
  | 0, Q, k, c, hk, h, _, hs => by
    rw [srch]
    by_cases hb : b < Q.length
    · rw [if_pos hb]
      exact .short Q rfl rfl h.ok (h.asc.imp fun a => a.2) hb
    · rw [if_neg hb]
      exact .none rfl rfl (none_of I0 h hs (by omega))
  | f + 1, Q, k, c, hk, h, hc, hs => by
    rw [srch]
    cases hq : Q[k]? with
    | none => exact .none rfl rfl (none_of I0 h hs (by simpa using hq))
    | some x =>
      have ox := h.ok x (List.mem_of_getElem? hq)
      have hkl := (List.getElem?_eq_some_iff.1 hq).1
      show Sought W0 b (if ringW x.W = true then (x.l, 1) else srch b f (kidsF x x.W.prog.length 0 Q) (k + 1))
      by_cases hr : ringW x.W = true
      · rw [if_pos hr]
        refine .found x.W rfl ox.go hr ox.lt fun m U hg hU => ?_
        obtain ⟨IU, hpU⟩ := goL_inv _ _ _ I0 hg
        rcases reach_q I0 h hs _ m U rfl hg with ⟨y, h1, h2, h3⟩ | ⟨i, y, h1, h2, h3⟩
        · obtain ⟨i, hi⟩ := List.getElem?_of_mem h1
          have oy := h.ok y h1
          rw [ringW_same oy.inv.good IU.good (by rw [hpU, oy.prog]) h2] at hU
          have hik : k ≤ i := Nat.le_of_not_lt fun hlt => by
            rw [(hs i y hlt hi).1] at hU; cases hU
          have := asc_le h.asc hq hi hik
          show sv x.l ≤ sv m
          omega
        · have := asc_le h.asc hq h2 h1
          show sv x.l ≤ sv m
          omega
      · rw [if_neg hr, ox.prog]
        obtain ⟨h1, ⟨r, h2⟩, h3⟩ := kids_sb ox W0.prog.length 0 Q (by omega) (h.up (hc x hq))
        have hn5 := I0.good.n5
        refine srch_spec I0 b f _ (k + 1) _ (by omega) h1 (fun y hy => ?_) ?_
        · have hkk : (kidsF x W0.prog.length 0 Q)[k]? = some x := by rw [h2, List.getElem?_append_left hkl]; exact hq
          obtain ⟨hi, e1⟩ := List.getElem?_eq_some_iff.1 hkk
          obtain ⟨hj, e2⟩ := List.getElem?_eq_some_iff.1 hy
          have hlt := (List.pairwise_iff_getElem.1 h1.asc k (k + 1) hi hj (by omega)).1
          rw [e1, e2] at hlt
          omega
        · rw [h2]
          refine hs.next hkl fun y hy => ?_
          rw [hq] at hy
          cases hy
          refine ⟨by simpa using hr, fun t ht => ?_⟩
          rw [← h2]
          exact h3 t (Nat.zero_le _) (by omega)
theorem srch_start {W0 : Wd} (I0 : W0.Inv) (hl : W0.log = []) (b : Nat) : Sought W0 b (srch b b [⟨W0, []⟩] 0) := by
  have ok : Nd.Ok W0 ⟨W0, []⟩ := ⟨I0, rfl, rfl, (fun t ht => by cases ht), by simp [hl]⟩
  refine srch_spec I0 b b _ 0 1 (by omega) ⟨fun x hx => by rw [List.mem_singleton.1 hx]; exact ok, ⟨_, rfl, rfl, rfl⟩, List.pairwise_singleton _ _, fun y hy => by rw [List.mem_singleton.1 hy]; exact Nat.zero_lt_one⟩ (fun x hx => ?_) (fun i x hi _ => by omega)
  simp at hx
  subst hx
  omega
end Go.Proofs.YtdfndcbakcmgiabDoor
namespace Go.Proofs.YtdfndcbakcmgiabDoor
open Go.RowKit

/-! A circle that is Sure leads to a ring. -/
theorem nodup_len : ∀ (n : Nat) (l : List Nat), l.Nodup → (∀ x ∈ l, x < n) → l.length ≤ n
  | 0, l, _, h => by
    cases l with
    | nil => simp
    | cons a l => exact absurd (h a (List.mem_cons_self ..)) (by omega)
  | n + 1, l, hn, h => by
    have h1 := nodup_len n (l.erase n) (hn.erase n) (fun x hx => by
      have h2 := (hn.mem_erase_iff).1 hx
      have := h x h2.2
      have := h2.1
      omega)
    by_cases hm : n ∈ l
    · have := List.length_erase_of_mem hm
      omega
    · rw [List.erase_of_not_mem hm] at h1
      omega
theorem ringF_along {V : Wd} {f : Nat → Nat} {n : Nat} (h : ∀ i, i < n → stateOf V (f i) = 2 ∧ waitsOf V (f i) = (f ((i + 1) % n) : Nat)) : ∀ (d i m : Nat), i + (d + 1) = n → d < m → ringF V (f 0) m (f i) = true
  | d, i, 0, _, hm => by omega
  | d, i, m + 1, hd, hm => by
    obtain ⟨h1, h2⟩ := h i (by omega)
    rw [ringF, if_pos h1, h2, Int.toNat_natCast]
    by_cases he : i + 1 = n
    · rw [he, Nat.mod_self, if_pos rfl]
    · rw [Nat.mod_eq_of_lt (by omega)]
      split
      · rfl
      · obtain ⟨d', rfl⟩ : ∃ d', d = d' + 1 := ⟨d - 1, by omega⟩
        exact ringF_along h d' (i + 1) m (by omega) (by omega)
theorem ring_of {V : Wd} {la : List Aq} {p : List Nat} (hc : CircP la p) (h : ∀ i, i < p.length → RingAt V (aqOf la (pAt p i)) (aqOf la (pAt p ((i + 1) % p.length)))) : ringW V = true := by
  obtain ⟨h2, hc⟩ := hc
  have hpl : p.length ≤ V.prog.length := by
    have := nodup_len V.prog.length ((List.range p.length).map fun i => (aqOf la (pAt p i)).th) (by
      rw [List.Nodup, List.pairwise_iff_getElem]
      intro i j hi hj hij
      simp only [List.length_map, List.length_range] at hi hj
      have := ((hc j hj).2.2 i hij)
      simp only [apartB, Bool.and_eq_true, Bool.not_eq_true', decide_eq_false_iff_not] at this
      simpa using this.1) (fun x hx => by
      obtain ⟨i, hi, rfl⟩ := List.mem_map.1 hx
      exact (h i (List.mem_range.1 hi)).lt)
    simpa using this
  have hst : ∀ i, i < p.length → stateOf V (aqOf la (pAt p i)).th = 2 ∧ waitsOf V (aqOf la (pAt p i)).th = ((aqOf la (pAt p ((i + 1) % p.length))).th : Nat) := fun i hi => by
    have r := h i hi
    obtain ⟨l, hA⟩ := r.at'
    exact lock_state hA r.k6 r.has r.ne
  refine List.any_eq_true.2 ⟨(aqOf la (pAt p 0)).th, List.mem_range.2 (h 0 (by omega)).lt, ?_⟩
  exact ringF_along (f := fun i => (aqOf la (pAt p i)).th) hst (p.length - 1) 0 _ (by omega) (by omega)
theorem goL_lt : ∀ (m : List Nat) (W V : Wd), goL W m = some V → ∀ t ∈ m, t < W.prog.length
  | [], _, _, _, t, ht => by cases ht
  | a :: m, W, V, h, t, ht => by
    simp only [goL] at h
    split at h
    · rename_i hc
      rcases List.mem_cons.1 ht with rfl | ht
      · exact hc.1
      · have := goL_lt m _ V h t ht
        rwa [moveT_prog] at this
    · cases h
theorem goL_len : ∀ (m : List Nat) (W V : Wd), goL W m = some V → V.log.length = W.log.length + m.length
  | [], W, V, h => by simp only [goL, Option.some.injEq] at h; subst h; rfl
  | a :: m, W, V, h => by
    simp only [goL] at h
    split at h
    · have := goL_len m _ V h
      rw [moveT_log] at this
      rw [this, List.length_cons]; omega
    · cases h
theorem begin_log0 (ths : List ByteArray) : (beginW ths).log = [] := by simp [beginW, madeW]
theorem goL_60 {ths : List ByteArray} (I0 : (beginW ths).Inv) {m : List Nat} {V : Wd} (h : goL (beginW ths) m = some V) : m.length ≤ 60 ∧ ∀ t ∈ m, t < 5 := by
  obtain ⟨IV, hp⟩ := goL_inv _ _ _ I0 h
  have h1 := goL_len _ _ _ h
  have h2 := IV.small
  have h3 := I0.good.n5
  rw [begin_log0] at h1
  refine ⟨by simp at h1; omega, fun t ht => ?_⟩
  have := goL_lt _ _ _ h t ht
  omega
theorem findS_circL (la : List Aq) (most : Nat) : ∀ p ∈ (findS la most).1, CircP la p := by
  intro p hp
  have hs : (findS la most).1 = ([2, 3, 4, 5].flatMap fun n => dfs la n []).take most := by rw [findS_add]; rfl
  rw [hs] at hp
  obtain ⟨n, hn, hp⟩ := List.mem_flatMap.1 (List.mem_of_mem_take hp)
  have hn2 : 2 ≤ n ∧ n ≤ 5 := by simp at hn; omega
  rw [← chn_dfs la n (by omega)] at hp
  exact circB_iff.1 (List.mem_filter.1 hp).2
theorem judgeV_sure {log : List Ev} {ring : List Aq} (h : (judgeV log ring).1 = 4) :
    boundB ring (closeF log (aheadL (log.map mvE) ring)) = false ∧ (judgeV log ring).2 = thsE (log.map mvE) (closeF log (aheadL (log.map mvE) ring)) := by
  unfold judgeV at h ⊢
  split at h
  · simp at h
  · split at h
    · simp at h
    · split at h
      · simp at h
      · rename_i h1 h2 h3
        rw [if_neg h1, if_neg h2, if_neg h3]
        exact ⟨by simpa using h3, rfl⟩
/-- The schedule of a circle that is Sure leads to a ring. -/
theorem sure_found (ths : List ByteArray) (I0 : (beginW ths).Inv) {ms : List Nat} {WE : Wd} (h : goL (beginW ths) ms = some WE) (p : List Nat) (hp : p ∈ (findS (aqsW WE) 100).1) (hv : (rpOf WE.log (aqsW WE) p).vd = 4) :
    ∃ V, goL (beginW ths) (rpOf WE.log (aqsW WE) p).sc = some V ∧ ringW V = true := by
  obtain ⟨_, _, hpi⟩ := findS_in _ _ p hp
  obtain ⟨hb, hs⟩ := judgeV_sure (log := WE.log) (ring := ringOf (aqsW WE) p) hv
  have hc := findS_circL _ _ p hp
  obtain ⟨V, hV, _, _, hR⟩ := sure_ring ths I0 h (goL_inv _ _ _ I0 h).1.small p hpi hc hb
  refine ⟨V, ?_, ring_of hc hR⟩
  show goL _ (judgeV WE.log (ringOf (aqsW WE) p)).2 = some V
  rw [hs]; exact hV

/-! The order of schedules. -/
theorem sv_app : ∀ (r r' x y : List Nat), r.length = r'.length → (∀ t ∈ r, t < 10) → sv x < sv y → sv (x ++ r) < sv (y ++ r')
  | [], [], x, y, _, _, h => by simpa using h
  | [], _ :: _, _, _, h, _, _ => by simp at h
  | _ :: _, [], _, _, h, _, _ => by simp at h
  | a :: r, b :: r', x, y, hl, hd, h => by
    rw [show x ++ a :: r = (x ++ [a]) ++ r by simp, show y ++ b :: r' = (y ++ [b]) ++ r' by simp]
    refine sv_app r r' _ _ (by simpa using hl) (fun t ht => hd t (List.mem_cons_of_mem _ ht)) ?_
    have := hd a (List.mem_cons_self ..)
    rw [sv_snoc, sv_snoc]; omega
theorem sv_len : ∀ (n : Nat) (b a : List Nat), b.length = n → (∀ t ∈ b, t < 10) → b.length < a.length → sv b < sv a
  | 0, b, a, hn, _, h => by
    obtain rfl : b = [] := List.length_eq_zero_iff.1 hn
    obtain ⟨a', v, rfl⟩ : ∃ a' v, a = a' ++ [v] := ⟨a.dropLast, a.getLast (by intro e; rw [e] at h; simp at h), (List.dropLast_concat_getLast _).symm⟩
    rw [sv_snoc, sv_nil]; omega
  | n + 1, b, a, hn, hd, h => by
    obtain ⟨a', v, rfl⟩ : ∃ a' v, a = a' ++ [v] := ⟨a.dropLast, a.getLast (by intro e; rw [e] at h; simp at h), (List.dropLast_concat_getLast _).symm⟩
    obtain ⟨b', u, rfl⟩ : ∃ b' u, b = b' ++ [u] := ⟨b.dropLast, b.getLast (by intro e; rw [e] at hn; simp at hn), (List.dropLast_concat_getLast _).symm⟩
    have := sv_len n b' a' (by simpa using hn) (fun t ht => hd t (List.mem_append_left _ ht)) (by simpa using h)
    have := hd u (by simp)
    rw [sv_snoc, sv_snoc]; omega
theorem sv_le_len {a b : List Nat} (hb : ∀ t ∈ b, t < 10) (h : sv a ≤ sv b) : a.length ≤ b.length := by
  rcases Nat.lt_or_ge b.length a.length with hl | hl
  · have := sv_len _ b a rfl hb hl; omega
  · exact hl
theorem sv_first {a b : List Nat} (hb : ∀ t ∈ b, t < 10) (h : sv a ≤ sv b) (hl : a.length = b.length) {i x y : Nat} (hp : a.take i = b.take i) (hx : a[i]? = some x) (hy : b[i]? = some y) (hne : x ≠ y) : x < y := by
  rcases Nat.lt_or_ge x y with h1 | h1
  · exact h1
  · obtain ⟨hi, ex⟩ := List.getElem?_eq_some_iff.1 hx
    obtain ⟨hj, ey⟩ := List.getElem?_eq_some_iff.1 hy
    have ea : a = (a.take i ++ [x]) ++ a.drop (i + 1) := by
      rw [← ex, List.append_assoc, List.singleton_append, ← List.drop_eq_getElem_cons hi, List.take_append_drop]
    have eb : b = (b.take i ++ [y]) ++ b.drop (i + 1) := by
      rw [← ey, List.append_assoc, List.singleton_append, ← List.drop_eq_getElem_cons hj, List.take_append_drop]
    have := sv_app (b.drop (i + 1)) (a.drop (i + 1)) (b.take i ++ [y]) (a.take i ++ [x]) (by simp; omega) (fun t ht => hb t (List.mem_of_mem_drop ht)) (by
      rw [sv_snoc, sv_snoc, hp]; omega)
    rw [← ea, ← eb] at this
    omega

set_option maxRecDepth 100000 in
set_option maxHeartbeats 1000000 in
theorem earlier_any (a b : List Nat) (_hal : a.length ≤ 1000) (hbl : b.length ≤ 1000) (ha : ∀ t ∈ a, t < 10) (hb : ∀ t ∈ b, t < 10) (h : sv a ≤ sv b) (w : World) :
    Calls Tryd.prog 16 #[.string (digS a), .string (digS b)] w fun e w' => e = .returned (.bool true) ∧ Below w.heap.size w w' := by
  have hsa := digS_size a
  have hsb := digS_size b
  have hle := sv_le_len hb h
  by_cases hl : a.length = b.length
  · have hnI : ((a.length : Int) != (b.length : Int)) = false := by simp [hl]
    have HF : Hid (∀ i x y, a.take i = b.take i → a[i]? = some x → b[i]? = some y → x ≠ y → x < y) := fun i x y h1 h2 h3 h4 => sv_first hb h hl h1 h2 h3 h4
    have HL : Hid (a.length = b.length) := hl
    clear h hle
    go_enter Tryd.func16, Tryd.ntmps16
    go_wp2
    go_loopw [5] (fun y wr => ∃ i : Nat, i ≤ a.length ∧ y = .int .i64 (i : Int) ∧ Hid (a.take i = b.take i) ∧ Below w.heap.size w wr) (fun y _ => a.length - (intOf y).toNat)
    case atStart => exact ⟨0, Nat.zero_le _, rfl, by simp [Hid], Below.refl _ _⟩
    case round =>
      obtain ⟨i, hi, rfl, HT, hB⟩ := hrel
      by_cases hil : i < a.length
      · obtain ⟨x, hx⟩ := get_some a i hil
        obtain ⟨y, hy⟩ := get_some b i (by rw [← HL.out]; exact hil)
        have hx10 := ha x (List.mem_of_getElem? hx)
        have hy10 := hb y (List.mem_of_getElem? hy)
        have hbx := digS_at a i x hx (by omega) (by omega)
        have hby := digS_at b i y hy (by omega) (by omega)
        have i0 : (0 : Int) ≤ (i : Int) := by omega
        have il : (i : Int) < (a.length : Int) := by omega
        have ilb : (i : Int) < (b.length : Int) := by omega
        by_cases hxy : x = y
        · have HT2 : Hid (a.take (i + 1) = b.take (i + 1)) := by rw [Hid, List.take_add_one, List.take_add_one, HT.out, hx, hy, hxy]
          subst hxy
          clear hx hy
          go_upto_region 6 with fail
          go_quiet (fail)
          go_wp2
          go_roundw
          case rel => exact ⟨i + 1, by omega, by go_num, HT2, hB.trans ((below_drewN _ _).mono hB.size)⟩
          case measure => (simp [intOf] <;> omega)
        · have hlt := HF.out i x y HT.out hx hy hxy
          have hbn : ((48 : Int) + (x : Int) != 48 + (y : Int)) = true := by simp; omega
          have hbl : (48 : Int) + (x : Int) < 48 + (y : Int) := by omega
          clear hx hy
          go_upto_region 6 with fail
          go_quiet (fail)
          go_upto_region 7 with fail
          go_quiet (fail)
          go_wp2
          go_ret
          exact ⟨rfl, hB.trans (((below_drewN _ _).trans ((below_drewN _ _).mono (below_drewN _ _).size)).mono hB.size)⟩
      · have il : ¬ (i : Int) < (a.length : Int) := by omega
        go_wp2
        go_ret
        exact ⟨rfl, hB⟩
  · have hnI : ((a.length : Int) != (b.length : Int)) = true := by simp; omega
    have hlt : (a.length : Int) < (b.length : Int) := by omega
    go_enter Tryd.func16, Tryd.ntmps16
    go_wp2
    go_ret
    exact ⟨by simp, Below.refl _ _⟩

set_option maxRecDepth 100000 in
set_option maxHeartbeats 1000000 in
theorem lawRing_any (s : ByteArray) (h0 : (ckP s).1 = 0) (l : List Nat) (hl : ∀ t ∈ l, t ≤ 100) (hlen : l.length ≤ 1000) (V : Wd) (hV : goL (beginW (thLoop s 0 0 [])) l = some V) (w : World) :
    Calls Tryd.prog 12 #[.string s, .string (digS l)] w fun e w' => e = .returned (.bool (ringW V)) ∧ Below w.heap.size w w' := by
  have IV := (goL_inv l _ V (begin_inv s h0) hV).1
  have n5 := IV.good.n5
  have hln : (thsOf V V.prog.length).length = V.prog.length := thsOf_len V _
  have hR : ∀ w, Calls Tryd.prog 24 #[.string s, .string (digS l)] w fun e w' => ∃ a c, e = .returned (.tuple #[.agg #[.slice a V.prog.length c, .string (flagsLoop V.set 0 ⟨#[]⟩)], .int .i64 0]) ∧ Below w.heap.size w w' ∧ ThsIn w' a (thsOf V V.prog.length) := fun w => (replay_go s h0 l hl hlen V hV w).mono (by
    rintro e w1 ⟨a, c, rfl, hb, hT, _⟩
    exact ⟨a, c, by rw [hln], hb, hT⟩)
  have HGet : Hid (∀ (w' : World) (a : Option Addr), ThsIn w' a (thsOf V V.prog.length) → ∀ t, t < V.prog.length → ∃ g, a = some ⟨g, 0, none⟩ ∧ w'.cell? ⟨g, t * 4, none⟩ = some (.int .i64 (stateOf V t)) ∧ w'.cell? ⟨g, t * 4 + 3, none⟩ = some (.int .i64 (waitsOf V t))) := fun w' a hT t ht => by
    obtain ⟨g, e, h1, _, _, h4⟩ := hT _ _ (thsOf_get V _ _ ht)
    exact ⟨g, e, h1, h4⟩
  have HG : Hid V.Good := IV.good
  have HRT : Hid (∀ t, t < V.prog.length → ringF V t V.prog.length t = true → ringW V = true) := fun t ht h => List.any_eq_true.2 ⟨t, List.mem_range.2 ht, h⟩
  have HRF : Hid ((∀ t, t < V.prog.length → ringF V t V.prog.length t = false) → ringW V = false) := fun h => by
    rw [Bool.eq_false_iff]
    intro hh
    obtain ⟨t, ht, h2⟩ := List.any_eq_true.1 hh
    rw [h t (List.mem_range.1 ht)] at h2
    cases h2
  have HWL : Hid (∀ a, a < V.prog.length → stateOf V a = 2 → ∃ u : Nat, u < V.prog.length ∧ waitsOf V a = u) := fun a ha h => waits_lt IV.good ha h
  generalize flagsLoop V.set 0 ⟨#[]⟩ = fl at *
  generalize thsOf V V.prog.length = TL at *
  generalize ringW V = res at *
  generalize V.prog.length = N at *
  clear hln hV hl IV h0
  go_enter Tryd.func12, Tryd.ntmps12
  go_upto_region 2 with (first | (go_at_call 24; refine (hR _).mono ?_; rintro e w1 ⟨aT, cT, rfl, hb1, hT1⟩))
  have hYb : Below w1.heap.size w1 (w1.alloc (.cells #[.slice aT N cT, .string fl] 66)) := (Below.refl _ _).alloc (Nat.le_refl _) _
  have y0 : (w1.alloc (.cells #[.slice aT N cT, .string fl] 66)).cell? ⟨w1.heap.size, 0, none⟩ = some (.slice aT N cT) := cellB (heap_alloc_new _ _) rfl
  have hbY := hb1.trans (hYb.mono hb1.size)
  have hTY := hT1.below hYb
  generalize w1.alloc (.cells #[.slice aT N cT, .string fl] 66) = Y at *
  clear hR hT1 hYb hb1
  go_wp2
  go_loopw [7] (fun y wr => ∃ t : Nat, t ≤ N ∧ y = .int .i64 (t : Int) ∧ Hid (∀ u, u < t → ringF V u N u = false) ∧ Below Y.heap.size Y wr) (fun y _ => N - (intOf y).toNat)
  case atStart => exact ⟨0, Nat.zero_le _, rfl, (fun u hu => absurd hu (by omega)), Below.refl _ _⟩
  case round =>
    obtain ⟨t, ht, rfl, HN, hB⟩ := hrel
    have yr := cell_later hB y0
    have hBr := hbY.trans (hB.mono hbY.size)
    by_cases htl : t < N
    · have tl : (t : Int) < (N : Int) := by omega
      generalize hres : ringF V t N t = rt
      have HR : Hid (ringF V t N t = rt) := hres
      clear hres
      go_wp2
      go_loopw [8, 9] (fun x y wq => ∃ (a k : Nat), k ≤ N ∧ a < N ∧ y = .int .i64 (k : Int) ∧ x = .int .i64 (a : Int) ∧ Hid (ringF V t (N - k) a = rt) ∧ Below wr.heap.size wr wq) (fun _ y _ => N - (intOf y).toNat)
      case atStart => exact ⟨t, 0, Nat.zero_le _, htl, rfl, rfl, HR, Below.refl _ _⟩
      case round =>
        obtain ⟨a, k, hk, ha, rfl, rfl, HS, hBq⟩ := hrel
        have yq := cell_later hBq yr
        have hBrq := hBr.trans (hBq.mono hBr.size)
        by_cases hkl : k < N
        · have kl : (k : Int) < (N : Int) := by omega
          have a0 : ¬ (a : Int) < 0 := by omega
          have a0' : (0 : Int) ≤ (a : Int) := by omega
          have aN : ¬ (N : Int) ≤ (a : Int) := by omega
          have aN' : (a : Int) < (N : Int) := by omega
          obtain ⟨g, ega, c0, c3⟩ := HGet.out _ _ ((hTY.below hB).below hBq) a ha
          subst ega
          have HS2 : Hid ((if stateOf V a = 2 then (if waitsOf V a = t then true else ringF V t (N - (k + 1)) (waitsOf V a).toNat) else false) = rt) := by
            rw [Hid, ← HS.out, show N - k = (N - (k + 1)) + 1 by omega, ringF]
          by_cases h2 : stateOf V a = 2
          · obtain ⟨u, hu, hwu⟩ := HWL.out a ha h2
            rw [h2] at c0
            rw [hwu] at c3
            rw [if_pos h2, hwu, Int.toNat_natCast] at HS2
            clear h2 hwu
            by_cases hut : u = t
            · have hr : res = true := HRT.out t htl (by rw [HR.out, ← HS2.out, if_pos (by rw [hut])])
              subst hr hut
              go_wp2
              go_ret
              exact ⟨rfl, hBrq⟩
            · have hutI : ((u : Int) == (t : Int)) = false := beq_false_of_ne (by omega)
              have HS3 : Hid (ringF V t (N - (k + 1)) u = rt) := by rw [Hid, ← HS2.out, if_neg (by omega)]
              go_wp2
              go_roundw
              case rel => exact ⟨u, k + 1, by omega, hu, by go_num, rfl, HS3, hBq⟩
              case measure => (simp [intOf] <;> omega)
          · have hrt : rt = false := by rw [← HS2.out, if_neg h2]
            have HN2 : Hid (∀ u, u < t + 1 → ringF V u N u = false) := fun u hu => by
              by_cases he : u = t
              · rw [he, HR.out, hrt]
              · exact HN.out u (by omega)
            generalize stateOf V a = sa at *
            have h2I : (sa != 2) = true := by simpa using h2
            have h2J : (sa == 2) = false := beq_false_of_ne h2
            clear hrt
            go_wp2
            go_roundw
            case rel => exact ⟨t + 1, by omega, by go_num, HN2, hB.trans (hBq.mono hB.size)⟩
            case measure => (simp [intOf] <;> omega)
        · have kl : ¬ (k : Int) < (N : Int) := by omega
          have hrt : rt = false := by rw [← HS.out, show N - k = 0 by omega]; rfl
          have HN2 : Hid (∀ u, u < t + 1 → ringF V u N u = false) := fun u hu => by
            by_cases he : u = t
            · rw [he, HR.out, hrt]
            · exact HN.out u (by omega)
          clear hrt
          go_wp2
          go_roundw
          case rel => exact ⟨t + 1, by omega, by go_num, HN2, hB.trans (hBq.mono hB.size)⟩
          case measure => (simp [intOf] <;> omega)
    · have tl : ¬ (t : Int) < (N : Int) := by omega
      have hr : res = false := HRF.out fun u hu => HN.out u (by omega)
      subst hr
      go_wp2
      go_ret
      exact ⟨rfl, hBr⟩
end Go.Proofs.YtdfndcbakcmgiabDoor
