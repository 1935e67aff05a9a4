import Derived.Test.YtdfndcbakcmgiabDoorY1
import Derived.Test.YtdfndcbakcmgiabDoorY5
namespace Go.Proofs.YtdfndcbakcmgiabDoor

/-! Wheels: each thread takes its own lock, then the next one's (pure). -/
def wbody (own next : Nat) (f : Bool) (d0 d1 d2 : Nat) : List Ins :=
  List.replicate d0 .dot ++ ((if f then [.take 5] else []) ++ (.take own :: (List.replicate d1 .dot ++ (.take next :: (List.replicate d2 .dot ++ (.give own :: .give next :: (if f then [.give 5] else [])))))))
def okI : Ins → Bool
  | .dot => true
  | .take k => decide (k < 6)
  | .give k => decide (k < 6)
  | _ => false
def HasL (l : List Ins) (f : Nat → Bool) : Prop := ∀ y, y < 6 → hold l y = f y
def TakeP (own next : Nat) (f : Bool) (q : Nat) (T : List Ins) (n k : Nat) : Prop :=
  T[n]? = some (.take k) → hold (T.take n) k = false ∧
    ((k = own ∧ HasL (T.take n) fun y => f && decide (y = 5)) ∨ (f = true ∧ k = 5 ∧ HasL (T.take n) fun _ => false) ∨
     (k = next ∧ n = q ∧ HasL (T.take n) fun y => decide (y = own) || (f && decide (y = 5))))
def GiveP (T : List Ins) (n k : Nat) : Prop := T[n]? = some (.give k) → hold (T.take n) k = true
def GateP (f : Bool) (T : List Ins) (n y : Nat) : Prop := f = true → hold (T.take n) y = true → hold (T.take n) 5 = true
def AllP (own next : Nat) (f : Bool) (q : Nat) (T : List Ins) : Prop := ∀ n, n < 13 → ∀ k, k < 6 → TakeP own next f q T n k ∧ GiveP T n k ∧ GateP f T n k
def TwiceP (own : Nat) (T : List Ins) (n m : Nat) : Prop := n < m → T[n]? = some (.take own) → ¬ T[m]? = some (.take own)
def OnceP (f : Bool) (own : Nat) (T : List Ins) : Prop := (f = false → T.length ≤ 10) ∧ ∀ n, n < 13 → ∀ m, m < 13 → TwiceP own T n m
def BodyP (own next : Nat) (f : Bool) (q : Nat) (T : List Ins) : Prop :=
  T.length ≤ 12 ∧ T[q]? = some (.take next) ∧ (∀ k, k < 6 → hold T k = false) ∧ (∀ i ∈ T, okI i = true) ∧ AllP own next f q T ∧ OnceP f own T
/-! The same, as a test that can be reckoned. -/
def atT (T : List Ins) (n k : Nat) : Bool := match T[n]? with
  | some i => i.isT k
  | none => false
def atG (T : List Ins) (n k : Nat) : Bool := match T[n]? with
  | some i => i.isG k
  | none => false
theorem atT_iff {T : List Ins} {n k : Nat} : atT T n k = true ↔ T[n]? = some (.take k) := by
  unfold atT
  cases T[n]? with
  | none => simp
  | some i => simp only [Ins.isT_iff, Option.some.injEq]
theorem atG_iff {T : List Ins} {n k : Nat} : atG T n k = true ↔ T[n]? = some (.give k) := by
  unfold atG
  cases T[n]? with
  | none => simp
  | some i => simp only [Ins.isG_iff, Option.some.injEq]
theorem all_range {n : Nat} {f : Nat → Bool} (h : (List.range n).all f = true) : ∀ i, i < n → f i = true := fun i hi => List.all_eq_true.1 h i (List.mem_range.2 hi)
def hasC (l : List Ins) (f : Nat → Bool) : Bool := (List.range 6).all fun y => decide (hold l y = f y)
theorem hasC_of {l : List Ins} {f : Nat → Bool} (h : hasC l f = true) : HasL l f := fun y hy => of_decide_eq_true (all_range h y hy)
def takeC (own next : Nat) (f : Bool) (q : Nat) (T : List Ins) (n k : Nat) : Bool :=
  !atT T n k || (!hold (T.take n) k && ((decide (k = own) && hasC (T.take n) fun y => f && decide (y = 5)) || ((f && decide (k = 5)) && hasC (T.take n) fun _ => false) ||
     ((decide (k = next) && decide (n = q)) && hasC (T.take n) fun y => decide (y = own) || (f && decide (y = 5)))))
theorem takeC_of {own next : Nat} {f : Bool} {q : Nat} {T : List Ins} {n k : Nat} (h : takeC own next f q T n k = true) : TakeP own next f q T n k := fun hi => by
  rw [takeC, atT_iff.2 hi, Bool.not_true, Bool.false_or, Bool.and_eq_true, Bool.not_eq_true', Bool.or_eq_true, Bool.or_eq_true] at h
  refine ⟨h.1, ?_⟩
  rcases h.2 with (h2 | h2) | h2
  · rw [Bool.and_eq_true, decide_eq_true_iff] at h2
    exact .inl ⟨h2.1, hasC_of h2.2⟩
  · rw [Bool.and_eq_true, Bool.and_eq_true, decide_eq_true_iff] at h2
    exact .inr (.inl ⟨h2.1.1, h2.1.2, hasC_of h2.2⟩)
  · rw [Bool.and_eq_true, Bool.and_eq_true, decide_eq_true_iff, decide_eq_true_iff] at h2
    exact .inr (.inr ⟨h2.1.1, h2.1.2, hasC_of h2.2⟩)
def giveC (T : List Ins) (n k : Nat) : Bool := !atG T n k || hold (T.take n) k
theorem giveC_of {T : List Ins} {n k : Nat} (h : giveC T n k = true) : GiveP T n k := fun hi => by
  rw [giveC, atG_iff.2 hi, Bool.not_true, Bool.false_or] at h
  exact h
def gateC (f : Bool) (T : List Ins) (n y : Nat) : Bool := !(f && hold (T.take n) y) || hold (T.take n) 5
theorem gateC_of {f : Bool} {T : List Ins} {n y : Nat} (h : gateC f T n y = true) : GateP f T n y := fun hf hy => by
  rw [gateC, hf, hy] at h
  exact h
def twiceC (own : Nat) (T : List Ins) (n m : Nat) : Bool := !(decide (n < m) && (atT T n own && atT T m own))
theorem twiceC_of {own : Nat} {T : List Ins} {n m : Nat} (h : twiceC own T n m = true) : TwiceP own T n m := fun h1 h2 h3 => by
  rw [twiceC, decide_eq_true h1, atT_iff.2 h2, atT_iff.2 h3] at h
  cases h
def bodyC (own next : Nat) (f : Bool) (q : Nat) (T : List Ins) : Bool :=
  ((decide (T.length ≤ 12) && atT T q next) && (((List.range 6).all fun k => decide (hold T k = false)) && T.all okI)) &&
  (((List.range 13).all fun n => (List.range 6).all fun k => takeC own next f q T n k && (giveC T n k && gateC f T n k)) && ((f || decide (T.length ≤ 10)) && (List.range 13).all fun n => (List.range 13).all fun m => twiceC own T n m))
theorem bodyC_of {own next : Nat} {f : Bool} {q : Nat} {T : List Ins} (h : bodyC own next f q T = true) : BodyP own next f q T := by
  simp only [bodyC, Bool.and_eq_true] at h
  obtain ⟨⟨⟨h1, h2⟩, h3, h4⟩, h5, h6, h7⟩ := h
  refine ⟨of_decide_eq_true h1, atT_iff.1 h2, fun k hk => of_decide_eq_true (all_range h3 k hk), fun i hi => List.all_eq_true.1 h4 i hi, fun n hn k hk => ?_, fun hf => ?_, fun n hn m hm => twiceC_of (all_range (all_range h7 n hn) m hm)⟩
  · have h8 := all_range (all_range h5 n hn) k hk
    simp only [Bool.and_eq_true] at h8
    exact ⟨takeC_of h8.1, giveC_of h8.2.1, gateC_of h8.2.2⟩
  · rw [hf, Bool.false_or] at h6
    exact of_decide_eq_true h6
def wheelsC (f : Bool) (a : Nat) : Bool := (List.range 4).all fun own => (List.range 4).all fun next => decide (own = next) || (List.range 3).all fun d0 => (List.range 3).all fun d1 => (List.range 3).all fun d2 => bodyC own next f (d0 + a + d1) (wbody own next f d0 d1 d2)
theorem wheelsC_of {f : Bool} {a : Nat} (h : wheelsC f a = true) {own : Nat} (ho : own < 4) {next : Nat} (hn : next < 4) (hne : own ≠ next) {d0 : Nat} (h0 : d0 < 3) {d1 : Nat} (h1 : d1 < 3) {d2 : Nat} (h2 : d2 < 3) : BodyP own next f (d0 + a + d1) (wbody own next f d0 d1 d2) := by
  have h3 := all_range (all_range h own ho) next hn
  rw [decide_eq_false hne, Bool.false_or] at h3
  exact bodyC_of (all_range (all_range (all_range h3 d0 h0) d1 h1) d2 h2)
set_option maxRecDepth 100000 in
theorem body_no : wheelsC false 1 = true := by decide +kernel
set_option maxRecDepth 100000 in
theorem body_yes : wheelsC true 2 = true := by decide +kernel

def wst (n : Nat) : List Ins := (List.range n).map fun u => .start (u + 1)
def wh0 (n mode : Nat) : List Ins := if mode = 2 then (List.range (2 * n)).map fun i => if i % 2 = 0 then .start (i / 2 + 1) else .join (i / 2 + 1) else wst n
structure Whl (n mode : Nat) (P : List (List Ins)) (q : Nat → Nat) : Prop where
  n2 : 2 ≤ n
  n4 : n ≤ 4
  m3 : mode < 3
  len : P.length = n + 1
  z : th P 0 = wh0 n mode
  b : ∀ t, 1 ≤ t → t ≤ n → BodyP (t - 1) (t % n) (decide (mode = 1)) (q t) (th P t)
theorem map_range_get {A : Type} {m i : Nat} {x : A} {f : Nat → A} (h : ((List.range m).map f)[i]? = some x) : i < m ∧ x = f i := by
  rw [List.getElem?_map] at h
  rcases Nat.lt_or_ge i m with h1 | h1
  · rw [List.getElem?_range h1] at h
    simp only [Option.map_some, Option.some.injEq] at h
    exact ⟨h1, h.symm⟩
  · rw [List.getElem?_eq_none (by simpa using h1)] at h; cases h
theorem Whl.t0i {n mode : Nat} {P : List (List Ins)} {q : Nat → Nat} (C : Whl n mode P q) {i : Nat} {x : Ins} (h : (th P 0)[i]? = some x) :
    (mode = 2 ∧ i < 2 * n ∧ x = if i % 2 = 0 then .start (i / 2 + 1) else .join (i / 2 + 1)) ∨ (mode ≠ 2 ∧ i < n ∧ x = .start (i + 1)) := by
  rw [C.z, wh0] at h
  split at h
  · rename_i e
    obtain ⟨h1, h2⟩ := map_range_get h
    exact .inl ⟨e, h1, h2⟩
  · rename_i e
    obtain ⟨h1, h2⟩ := map_range_get h
    exact .inr ⟨e, h1, h2⟩
theorem Whl.starts {n mode : Nat} {P : List (List Ins)} {q : Nat → Nat} (C : Whl n mode P q) {i u : Nat} (h : (th P 0)[i]? = some (.start u)) : 0 < u ∧ u ≤ n ∧ i = if mode = 2 then 2 * (u - 1) else u - 1 := by
  rcases C.t0i h with ⟨h1, h2, h3⟩ | ⟨h1, h2, h3⟩
  · split at h3
    · cases h3
      rw [if_pos h1]
      omega
    · cases h3
  · cases h3
    rw [if_neg h1]
    omega
theorem Whl.joins {n mode : Nat} {P : List (List Ins)} {q : Nat → Nat} (C : Whl n mode P q) {i u : Nat} (h : (th P 0)[i]? = some (.join u)) : mode = 2 ∧ 0 < u ∧ u ≤ n ∧ i = 2 * (u - 1) + 1 := by
  rcases C.t0i h with ⟨h1, h2, h3⟩ | ⟨h1, h2, h3⟩
  · split at h3
    · cases h3
    · cases h3
      exact ⟨h1, by omega, by omega, by omega⟩
  · cases h3
theorem Whl.start_at {n mode : Nat} {P : List (List Ins)} {q : Nat → Nat} (C : Whl n mode P q) {u : Nat} (h0 : 0 < u) (hu : u ≤ n) : (th P 0)[if mode = 2 then 2 * (u - 1) else u - 1]? = some (.start u) := by
  rw [C.z, wh0]
  split
  · rw [List.getElem?_map, List.getElem?_range (by omega), Option.map_some, if_pos (by omega), show 2 * (u - 1) / 2 + 1 = u by omega]
  · rw [wst, List.getElem?_map, List.getElem?_range (by omega), Option.map_some, show u - 1 + 1 = u by omega]
theorem Whl.join_at {n : Nat} {P : List (List Ins)} {q : Nat → Nat} (C : Whl n 2 P q) {u : Nat} (h0 : 0 < u) (hu : u ≤ n) : (th P 0)[2 * (u - 1) + 1]? = some (.join u) := by
  rw [C.z, wh0, if_pos rfl, List.getElem?_map, List.getElem?_range (by omega), Option.map_some, if_neg (by omega), show (2 * (u - 1) + 1) / 2 + 1 = u by omega]
theorem Whl.len0 {n mode : Nat} {P : List (List Ins)} {q : Nat → Nat} (C : Whl n mode P q) : (th P 0).length = if mode = 2 then 2 * n else n := by
  rw [C.z, wh0]
  split
  · simp
  · simp [wst]
theorem Whl.out {n mode : Nat} {P : List (List Ins)} {q : Nat → Nat} (C : Whl n mode P q) {t : Nat} (h : n < t) : th P t = [] := th_out (by have := C.len; omega)
theorem Whl.ok {n mode : Nat} {P : List (List Ins)} {q : Nat → Nat} (C : Whl n mode P q) {t m : Nat} {i : Ins} (h0 : 1 ≤ t) (h : (th P t)[m]? = some i) : t ≤ n ∧ m < 13 ∧ okI i = true := by
  rcases Nat.lt_or_ge n t with h1 | h1
  · rw [C.out h1] at h; simp at h
  · obtain ⟨b1, _, _, b4, _⟩ := C.b t h0 h1
    have := (List.getElem?_eq_some_iff.1 h).1
    exact ⟨h1, by omega, b4 i (List.mem_of_getElem? h)⟩
/-- What a thread has where it takes a lock. -/
theorem Whl.takes {n mode : Nat} {P : List (List Ins)} {q : Nat → Nat} (C : Whl n mode P q) {t m k : Nat} (h : (th P t)[m]? = some (.take k)) : 1 ≤ t ∧ t ≤ n ∧ k < 6 ∧ hold ((th P t).take m) k = false ∧
    ((k = t - 1 ∧ ∀ y, y < 6 → hold ((th P t).take m) y = (decide (mode = 1) && decide (y = 5))) ∨ (mode = 1 ∧ k = 5 ∧ ∀ y, y < 6 → hold ((th P t).take m) y = false) ∨
     (k = t % n ∧ m = q t ∧ ∀ y, y < 6 → hold ((th P t).take m) y = (decide (y = t - 1) || (decide (mode = 1) && decide (y = 5))))) := by
  have h0 : 1 ≤ t := by
    rcases Nat.eq_zero_or_pos t with e | e
    · subst e
      rcases C.t0i h with ⟨_, _, h3⟩ | ⟨_, _, h3⟩
      · split at h3 <;> cases h3
      · cases h3
    · exact e
  obtain ⟨h1, h2, h3⟩ := C.ok h0 h
  have hk : k < 6 := by simpa [okI] using h3
  obtain ⟨_, _, _, _, b5, _⟩ := C.b t h0 h1
  obtain ⟨b6, b7⟩ := (b5 m h2 k hk).1 h
  refine ⟨h0, h1, hk, b6, ?_⟩
  rcases b7 with b7 | ⟨b7, b8⟩ | b7
  · exact .inl b7
  · exact .inr (.inl ⟨of_decide_eq_true b7, b8⟩)
  · exact .inr (.inr b7)
theorem Whl.shp {n mode : Nat} {P : List (List Ins)} {q : Nat → Nat} (C : Whl n mode P q) : Shp P where
  pos := by have := C.len; omega
  n5 := by have := C.len; have := C.n4; omega
  ok := fun T hT i hi => by
    obtain ⟨t, ht, rfl⟩ := mem_th hT
    obtain ⟨m, hm⟩ := List.getElem?_of_mem hi
    rcases Nat.eq_zero_or_pos t with h0 | h0
    · subst h0
      have hl := C.len
      rcases C.t0i hm with ⟨_, h2, h3⟩ | ⟨_, h2, h3⟩
      · split at h3
        · subst h3
          show m / 2 + 1 < P.length
          omega
        · subst h3
          show m / 2 + 1 < P.length
          omega
      · subst h3
        show m + 1 < P.length
        omega
    · obtain ⟨_, _, h3⟩ := C.ok h0 hm
      cases i with
      | dot => trivial
      | take k => exact (of_decide_eq_true h3 : k < 6)
      | give k => exact (of_decide_eq_true h3 : k < 6)
      | start u => simp [okI] at h3
      | join u => simp [okI] at h3
  t0 := fun i hi => by
    obtain ⟨m, hm⟩ := List.getElem?_of_mem hi
    have hl := C.len
    rcases C.t0i hm with ⟨_, h2, h3⟩ | ⟨_, h2, h3⟩
    · split at h3
      · exact ⟨m / 2 + 1, by omega, by omega, .inl h3⟩
      · exact ⟨m / 2 + 1, by omega, by omega, .inr h3⟩
    · exact ⟨m + 1, by omega, by omega, .inl h3⟩
  tr := fun t h0 i hi => by
    obtain ⟨m, hm⟩ := List.getElem?_of_mem hi
    obtain ⟨_, _, h3⟩ := C.ok h0 hm
    cases i with
    | dot => exact .inl rfl
    | take k => exact .inr ⟨k, by simpa [okI] using h3, .inl rfl⟩
    | give k => exact .inr ⟨k, by simpa [okI] using h3, .inr rfl⟩
    | start u => simp [okI] at h3
    | join u => simp [okI] at h3
  wfT := fun t m k h => (C.takes h).2.2.2.1
  wfG := fun t m k h => by
    rcases Nat.eq_zero_or_pos t with e | e
    · subst e
      rcases C.t0i h with ⟨_, _, h3⟩ | ⟨_, _, h3⟩
      · split at h3 <;> cases h3
      · cases h3
    · obtain ⟨h1, h2, h3⟩ := C.ok e h
      obtain ⟨_, _, _, _, b5, _⟩ := C.b t e h1
      exact (b5 m h2 k (by simpa [okI] using h3)).2.1 h
  once := fun i j u h1 h2 => by rw [(C.starts h1).2.2, (C.starts h2).2.2]
theorem Whl.fin {n mode : Nat} {P : List (List Ins)} {q : Nat → Nat} (C : Whl n mode P q) (t k : Nat) : hold (th P t) k = false := by
  rw [Bool.eq_false_iff]
  intro h
  have hm := hold_mem h
  obtain ⟨m, hm⟩ := List.getElem?_of_mem hm
  obtain ⟨h0, h1, hk, _⟩ := C.takes hm
  obtain ⟨_, _, b3, _⟩ := C.b t h0 h1
  rw [b3 k hk] at h
  cases h
theorem Whl.l12 {n mode : Nat} {P : List (List Ins)} {q : Nat → Nat} (C : Whl n mode P q) : ∀ T ∈ P, T.length ≤ 12 := fun T hT => by
  obtain ⟨t, ht, rfl⟩ := mem_th hT
  have hl := C.len
  have := C.n4
  rcases Nat.eq_zero_or_pos t with h0 | h0
  · subst h0
    rw [C.len0]; split <;> omega
  · exact (C.b t h0 (by omega)).1
theorem Whl.parse {n mode : Nat} {P : List (List Ins)} {q : Nat → Nat} (C : Whl n mode P q) : (ckP (bt (txL P))).1 = 0 ∧ (beginW (thLoop (bt (txL P)) 0 0 [])).prog = prg P := by
  have h := txL_len P C.l12
  have h5 := C.shp.n5
  exact parse_ok P (by intro e; have := C.shp.pos; rw [e] at this; cases this) h5 C.l12 C.shp.ok (by omega)
/-- Whose lock is it? -/
theorem Whl.whose {n mode : Nat} {P : List (List Ins)} {q : Nat → Nat} (C : Whl n mode P q) {t m k : Nat} (h : hold ((th P t).take m) k = true) : 1 ≤ t ∧ t ≤ n ∧ k < 6 ∧ (k = t - 1 ∨ k = t % n ∨ (mode = 1 ∧ k = 5)) := by
  have hm := List.mem_of_mem_take (hold_mem h)
  obtain ⟨j, hj⟩ := List.getElem?_of_mem hm
  obtain ⟨h0, h1, hk, _, h2⟩ := C.takes hj
  refine ⟨h0, h1, hk, ?_⟩
  rcases h2 with h2 | h2 | h2
  · exact .inl h2.1
  · exact .inr (.inr ⟨h2.1, h2.2.1⟩)
  · exact .inr (.inl h2.1)
/-- Under a common lock: who has one has that. -/
theorem Whl.gate {n : Nat} {P : List (List Ins)} {q : Nat → Nat} (C : Whl n 1 P q) {t m k : Nat} (h : hold ((th P t).take m) k = true) : hold ((th P t).take m) 5 = true := by
  obtain ⟨h0, h1, hk, _⟩ := C.whose h
  obtain ⟨b1, _, _, _, b5, _⟩ := C.b t h0 h1
  rcases Nat.lt_or_ge m 13 with hm | hm
  · exact (b5 m hm k hk).2.2 (decide_eq_true rfl) h
  · rw [List.take_of_length_le (by omega)] at h
    rw [C.fin] at h; cases h
theorem mod_ne {n t : Nat} (hn : 2 ≤ n) (h0 : 1 ≤ t) (h1 : t ≤ n) : t % n < n ∧ t % n ≠ t - 1 := by
  rcases Nat.lt_or_ge t n with h | h
  · rw [Nat.mod_eq_of_lt h]; omega
  · have : t = n := by omega
    subst this
    rw [Nat.mod_self]; omega
end Go.Proofs.YtdfndcbakcmgiabDoor
namespace Go.Proofs.YtdfndcbakcmgiabDoor

/-! Where the runs of a wheel end; its rings (pure). -/
theorem two_active {n : Nat} {P : List (List Ins)} {q : Nat → Nat} (C : Whl n 2 P q) {W : Wd} (h : St P W) {u v : Nat} (hu : 1 ≤ u) (huv : u < v) (hv : v ≤ n) (bv : bn W v = true) (pu : pl W u < (th P u).length) : False := by
  rcases (h.born v (by have := C.len; omega)).1 bv with h1 | ⟨i, hi, h1⟩
  · omega
  · have h2 := (C.starts h1).2.2
    rw [if_pos rfl] at h2
    have := (h.joined _ u (by omega) (C.join_at hu (by omega))).1
    omega
theorem wh_m2 {n : Nat} {P : List (List Ins)} {q : Nat → Nat} (C : Whl n 2 P q) {W : Wd} (h : St P W) {u v : Nat} (hu : 1 ≤ u) (hu' : u ≤ n) (hv : 1 ≤ v) (hv' : v ≤ n) (hne : u ≠ v) (bu : bn W u = true) (bv : bn W v = true) (pu : pl W u < (th P u).length) (pv : pl W v < (th P v).length) : False := by
  rcases Nat.lt_or_ge u v with h1 | h1
  · exact two_active C h hu h1 hv' bv pu
  · exact two_active C h hv (by omega) hu' bu pv
theorem wh_m1 {n : Nat} {P : List (List Ins)} {q : Nat → Nat} (C : Whl n 1 P q) {W : Wd} (h : St P W) {k u k2 v : Nat} (hk : k < 6) (hh : hs W k = some u) (hk2 : k2 < 6) (hh2 : hs W k2 = some v) (hne : v ≠ u) : False := by
  obtain ⟨_, hu, _, _, h1⟩ := h.holder C.shp C.fin hk hh
  obtain ⟨_, hv, _, _, h2⟩ := h.holder C.shp C.fin hk2 hh2
  have e1 := (h.has 5 u (by decide) hu).2 (C.gate h1)
  have e2 := (h.has 5 v (by decide) hv).2 (C.gate h2)
  rw [e1] at e2
  exact hne (Option.some.inj e2).symm
theorem pl_lt {P : List (List Ins)} {W : Wd} {t : Nat} {i : Ins} (h : (th P t)[pl W t]? = some i) : pl W t < (th P t).length := (List.getElem?_eq_some_iff.1 h).1
theorem wh_ring {n mode : Nat} {P : List (List Ins)} {q : Nat → Nat} (C : Whl n mode P q) (hm : mode = 1 ∨ mode = 2) {ths : List ByteArray} (I0 : (beginW ths).Inv) (hp : (beginW ths).prog = prg P) {m : List Nat} {U : Wd} (hg : goL (beginW ths) m = some U) : ringW U = false := by
  have hs := st_goL C.shp _ _ _ (st_begin I0 hp) hg
  refine no_ring hs.inv.good (fun _ => 0) fun a u ha hu h2 hw hu2 => ?_
  exfalso
  rw [hs.len] at ha hu
  cases knd_of C.shp hs ha with
  | unborn _ h1 => rw [h2] at h1; cases h1
  | ended _ _ h1 => rw [h2] at h1; cases h1
  | ready _ _ _ _ h1 => rw [h2] at h1; cases h1
  | joins _ _ _ _ _ h1 => rw [h2] at h1; cases h1
  | wants k v hba hi hk hh hne hv _ hwv =>
    have hvu : v = u := by rw [hw] at hwv; omega
    subst hvu
    cases knd_of C.shp hs hu with
    | unborn _ h1 => rw [hu2] at h1; cases h1
    | ended _ _ h1 => rw [hu2] at h1; cases h1
    | ready _ _ _ _ h1 => rw [hu2] at h1; cases h1
    | joins _ _ _ _ _ h1 => rw [hu2] at h1; cases h1
    | wants k' v' hbu hi' hk' hh' hne' _ _ _ =>
      rcases hm with rfl | rfl
      · exact wh_m1 C hs hk hh hk' hh' hne'
      · obtain ⟨a1, a2, _⟩ := C.takes hi
        obtain ⟨b1, b2, _⟩ := C.takes hi'
        exact wh_m2 C hs a1 a2 b1 b2 (Ne.symm hne) hba hbu (pl_lt hi) (pl_lt hi')
theorem Whl.nojoin {n mode : Nat} {P : List (List Ins)} {q : Nat → Nat} (C : Whl n mode P q) {t m u : Nat} (h0 : 1 ≤ t) (h : (th P t)[m]? = some (.join u)) : False := by
  rcases C.shp.tr t h0 _ (List.mem_of_getElem? h) with e | ⟨_, _, e | e⟩ <;> cases e
/-- The first thread has ended where no thread may move. -/
theorem wh_zero {n mode : Nat} {P : List (List Ins)} {q : Nat → Nat} (C : Whl n mode P q) {W : Wd} (h : St P W) (hn : ∀ t, t < P.length → stateOf W t ≠ 1) : pl W 0 = (th P 0).length := by
  have hl := C.len
  have hb0 := (h.born 0 C.shp.pos).2 (.inl rfl)
  cases knd_of C.shp h C.shp.pos with
  | unborn h1 _ => rw [hb0] at h1; cases h1
  | ended _ h1 _ => exact h1
  | ready _ _ _ _ h1 => exact absurd h1 (hn 0 C.shp.pos)
  | wants k u _ hi _ _ _ _ _ _ => have := (C.takes hi).1; omega
  | joins u _ hi hu hno _ =>
    exfalso
    obtain ⟨h2, h3, h4, h5⟩ := C.joins hi
    subst h2
    have hst := C.start_at h3 h4
    rw [if_pos rfl] at hst
    have hbu := (h.born u hu).2 (.inr ⟨_, by omega, hst⟩)
    cases knd_of C.shp h hu with
    | unborn h1 _ => rw [hbu] at h1; cases h1
    | ended _ h1 _ => exact hno ⟨hbu, h1⟩
    | ready _ _ _ _ h1 => exact absurd h1 (hn u hu)
    | wants k v _ hi' hk hh hne hv _ _ =>
      obtain ⟨c1, c2, c3, c4, _⟩ := h.holder C.shp C.fin hk hh
      exact wh_m2 C h h3 h4 c1 (by omega) (Ne.symm hne) hbu c3 (pl_lt hi') c4
    | joins v _ hi' _ _ _ => exact C.nojoin h3 hi'
/-- Where no thread may move all have ended, or wait for the next one's lock. -/
theorem wh_end {n mode : Nat} {P : List (List Ins)} {q : Nat → Nat} (C : Whl n mode P q) {W : Wd} (h : St P W) (hn : ∀ t, t < P.length → stateOf W t ≠ 1) {t : Nat} (h0 : 1 ≤ t) (h1 : t ≤ n) :
    bn W t = true ∧ ((pl W t = (th P t).length ∧ stateOf W t = 4) ∨ (mode = 0 ∧ pl W t = q t ∧ stateOf W t = 2)) := by
  have hl := C.len
  have hz := wh_zero C h hn
  have ht : t < P.length := by omega
  have hst := C.start_at h0 h1
  have hb := (h.born t ht).2 (.inr ⟨_, by rw [hz]; exact (List.getElem?_eq_some_iff.1 hst).1, hst⟩)
  refine ⟨hb, ?_⟩
  cases knd_of C.shp h ht with
  | unborn h2 _ => rw [hb] at h2; cases h2
  | ended _ h2 h3 => exact .inl ⟨h2, h3⟩
  | ready _ _ _ _ h2 => exact absurd h2 (hn t ht)
  | joins u _ hi _ _ _ => exact absurd (C.nojoin h0 hi) id
  | wants k u _ hi hk hh hne hu h2 _ =>
    obtain ⟨c1, c2, c3, c4, c5⟩ := h.holder C.shp C.fin hk hh
    by_cases hm2 : mode = 2
    · subst hm2
      exact absurd (wh_m2 C h h0 h1 c1 (by omega) (Ne.symm hne) hb c3 (pl_lt hi) c4) id
    · have hwu : ∃ k2 v, (th P u)[pl W u]? = some (.take k2) ∧ k2 < 6 ∧ hs W k2 = some v ∧ v ≠ u := by
        cases knd_of C.shp h c2 with
        | unborn e _ => rw [c3] at e; cases e
        | ended _ e _ => omega
        | ready _ _ _ _ e => exact absurd e (hn u c2)
        | joins v _ e _ _ _ => exact absurd (C.nojoin c1 e) id
        | wants k2 v _ e1 e2 e3 e4 _ _ _ => exact ⟨k2, v, e1, e2, e3, e4⟩
      obtain ⟨k2, v, e1, e2, e3, e4⟩ := hwu
      by_cases hm1 : mode = 1
      · subst hm1
        exact absurd (wh_m1 C h hk hh e2 e3 e4) id
      · obtain ⟨_, _, _, _, ht2⟩ := C.takes hi
        obtain ⟨hd1, hd2⟩ := mod_ne C.n2 h0 h1
        rcases ht2 with ⟨f1, _⟩ | ⟨f1, _⟩ | ⟨f1, f2, _⟩
        · exfalso
          obtain ⟨g1, g2, _, g3⟩ := C.whose c5
          obtain ⟨hu1, hu2⟩ := mod_ne C.n2 g1 g2
          rcases g3 with g3 | g3 | g3
          · exact hne (by omega)
          · obtain ⟨_, _, _, _, ht3⟩ := C.takes e1
            have hn4 := C.n4
            rcases ht3 with ⟨i1, i2⟩ | ⟨i1, _⟩ | ⟨i1, _, i3⟩
            · rw [i2 k hk, decide_eq_false hm1] at c5; cases c5
            · exact hm1 i1
            · rw [i3 k hk, decide_eq_false hm1, decide_eq_false (by omega)] at c5; cases c5
          · exact hm1 g3.1
        · exact absurd f1 hm1
        · by_cases hm0 : mode = 0
          · exact .inr ⟨hm0, f2, h2⟩
          · have := C.m3
            omega
theorem wh_how {n mode : Nat} {P : List (List Ins)} {q : Nat → Nat} (C : Whl n mode P q) {ths : List ByteArray} (I0 : (beginW ths).Inv) (hp : (beginW ths).prog = prg P) {picks : ByteArray} {ms : List Nat} {h : Int} {WE : Wd} (r : RunsTo picks (beginW ths) 0 ms h WE) :
    St P WE ∧ (∀ t, t < P.length → stateOf WE t ≠ 1) ∧ (h = 1 ∨ (h = 2 ∧ mode = 0)) := by
  have hs := st_goL C.shp _ _ _ (st_begin I0 hp) r.goes
  refine ⟨hs, ?_⟩
  cases r.ends I0 with
  | fault hf =>
    obtain ⟨u, hu, h5⟩ := hf
    exact absurd h5 (hs.no5 C.shp (by rw [← hs.len]; exact hu))
  | done hd =>
    refine ⟨fun t ht h1 => ?_, .inl rfl⟩
    have := hd t (by rw [hs.len]; exact ht)
    omega
  | stuck hn hex =>
    have hn' : ∀ t, t < P.length → stateOf WE t ≠ 1 := fun v hv => (hn v (by rw [hs.len]; exact hv)).1
    refine ⟨hn', .inr ⟨rfl, ?_⟩⟩
    obtain ⟨u, hu, h23⟩ := hex
    rw [hs.len] at hu
    rcases Nat.eq_zero_or_pos u with e | e
    · subst e
      exfalso
      have hz := wh_zero C hs hn'
      cases knd_of C.shp hs C.shp.pos with
      | unborn _ h1 => omega
      | ended _ _ h1 => omega
      | ready _ _ _ _ h1 => omega
      | wants _ _ _ hi _ _ _ _ _ _ => have := pl_lt hi; omega
      | joins _ _ hi _ _ _ => have := pl_lt hi; omega
    · rcases (wh_end C hs hn' e (by have := C.len; omega)).2 with ⟨_, h4⟩ | ⟨h4, _⟩
      · omega
      · exact h4
end Go.Proofs.YtdfndcbakcmgiabDoor
namespace Go.Proofs.YtdfndcbakcmgiabDoor

/-! The events of a run; the asks of a wheel, and its one circle (pure). -/
/-- A run of a straight program, move by move. -/
structure Rn (P : List (List Ins)) (N : Nat) (T : Nat → Nat) (ws : Nat → Wd) : Prop where
  st : ∀ j, St P (ws j)
  lt : ∀ j, j < N → T j < P.length
  mv : ∀ j, j < N → ∃ i, Mvd P (ws j) (ws (j + 1)) (T j) i
  z : ∀ t, pl (ws 0) t = 0
theorem rn_of {P : List (List Ins)} (S : Shp P) {ths : List ByteArray} (I0 : (beginW ths).Inv) (hp : (beginW ths).prog = prg P) {WE : Wd} {ms : List Nat} (h : goL (beginW ths) ms = some WE) : Rn P ms.length (thAt ms) (worldAt (beginW ths) ms) where
  st := fun j => st_at S I0 hp h j
  lt := fun j hj => by
    have := (worldAt_step h hj).1
    rwa [(st_at S I0 hp h j).len] at this
  mv := fun j hj => by
    obtain ⟨h1, h2, h3⟩ := worldAt_step h hj
    rw [h3]
    exact (mvd_of S (st_at S I0 hp h j) (by rwa [(st_at S I0 hp h j).len] at h1) h2).1
  z := fun t => by
    have h0 : worldAt (beginW ths) ms 0 = beginW ths := by simp [worldAt, goL]
    rw [h0]
    show (List.replicate ths.length 0)[t]?.getD 0 = 0
    rw [List.getElem?_replicate]; split <;> rfl
theorem Rn.step {P : List (List Ins)} {N : Nat} {T : Nat → Nat} {ws : Nat → Wd} (R : Rn P N T ws) {j : Nat} (hj : j < N) (t : Nat) : pl (ws (j + 1)) t = if t = T j then pl (ws j) t + 1 else pl (ws j) t := by
  obtain ⟨i, M⟩ := R.mv j hj
  rw [M.pl t]
  split
  · rename_i e; rw [e]
  · rfl
theorem Rn.mono {P : List (List Ins)} {N : Nat} {T : Nat → Nat} {ws : Nat → Wd} (R : Rn P N T ws) (t : Nat) {j : Nat} : ∀ d, j + d ≤ N → pl (ws j) t ≤ pl (ws (j + d)) t
  | 0, _ => Nat.le_refl _
  | d + 1, h => by
    have h1 := R.mono t (j := j) d (by omega)
    have h2 := R.step (j := j + d) (by omega) t
    rw [Nat.add_assoc] at h2
    rw [h2]
    split <;> omega
theorem Rn.le {P : List (List Ins)} {N : Nat} {T : Nat → Nat} {ws : Nat → Wd} (R : Rn P N T ws) (t : Nat) {i j : Nat} (hij : i ≤ j) (hj : j ≤ N) : pl (ws i) t ≤ pl (ws j) t := by
  have := R.mono t (j := i) (j - i) (by omega)
  rwa [show i + (j - i) = j by omega] at this
/-- Later events of a thread have later places. -/
theorem Rn.up {P : List (List Ins)} {N : Nat} {T : Nat → Nat} {ws : Nat → Wd} (R : Rn P N T ws) {i j t : Nat} (hij : i < j) (hj : j ≤ N) (ht : T i = t) : pl (ws i) t < pl (ws j) t := by
  have h1 := R.step (j := i) (by omega) t
  rw [if_pos ht.symm] at h1
  have h2 := R.le t (i := i + 1) (j := j) (by omega) hj
  omega
/-- Every place below was an event's. -/
theorem Rn.ex {P : List (List Ins)} {N : Nat} {T : Nat → Nat} {ws : Nat → Wd} (R : Rn P N T ws) {t m : Nat} : ∀ j, j ≤ N → m < pl (ws j) t → ∃ i, i < j ∧ T i = t ∧ pl (ws i) t = m
  | 0, _, h => by rw [R.z] at h; omega
  | j + 1, hj, h => by
    rw [R.step (by omega)] at h
    by_cases hm : m < pl (ws j) t
    · obtain ⟨i, h1, h2⟩ := R.ex j (by omega) hm
      exact ⟨i, by omega, h2⟩
    · split at h
      · rename_i e
        exact ⟨j, by omega, e.symm, by omega⟩
      · omega
theorem Rn.bnLe {P : List (List Ins)} {N : Nat} {T : Nat → Nat} {ws : Nat → Wd} (R : Rn P N T ws) {j : Nat} (hj : j < N) : bn (ws j) (T j) = true ∧ pl (ws j) (T j) < (th P (T j)).length := by
  obtain ⟨i, M⟩ := R.mv j hj
  exact ⟨M.bt, (List.getElem?_eq_some_iff.1 M.it).1⟩

theorem evAt_txt {P : List (List Ins)} {W : Wd} (h : St P W) {t : Nat} (ht : t < P.length) {i : Ins} (hi : (th P t)[pl W t]? = some i) : (evAt W t).txt = i.txt := by
  show (W.prog[t]?.getD [])[W.place[t]?.getD 0]?.getD ⟨#[]⟩ = i.txt
  rw [h.prog, prg_get ht]
  show ((th P t).map Ins.txt)[pl W t]?.getD ⟨#[]⟩ = i.txt
  rw [List.getElem?_map, hi]; rfl
theorem aqE_evAt (W : Wd) (t : Nat) (o : Option Nat) : (aqE (evAt W t) o).th = t ∧ (aqE (evAt W t) o).pl = pl W t ∧ (aqE (evAt W t) o).ev = o := ⟨by simp [aqE, evAt], by simp [aqE, evAt, pl], rfl⟩
/-- An ask that is an event. -/
theorem ask_ev {P : List (List Ins)} (S : Shp P) {ths : List ByteArray} (I0 : (beginW ths).Inv) (hp : (beginW ths).prog = prg P) {WE : Wd} {ms : List Nat} (h : goL (beginW ths) ms = some WE) {t m k : Nat} (hm : m < pl WE t) (hi : (th P t)[m]? = some (.take k)) :
    ∃ x ∈ aqsW WE, x.th = t ∧ x.pl = m := by
  have R := rn_of S I0 hp h
  have hE := worldAt_end h
  rw [← hE] at hm
  obtain ⟨j, hj, hT, hpl⟩ := R.ex ms.length (Nat.le_refl _) hm
  have hl0 : (beginW ths).log = [] := begin_log0 ths
  obtain ⟨_, hlg⟩ := log_of h hl0 ms.length (Nat.le_refl _)
  rw [hE] at hlg
  have hlj := hlg j hj
  have ht : t < P.length := by rw [← hT]; exact R.lt j hj
  rw [hT] at hlj
  obtain ⟨a1, a2, _⟩ := aqE_evAt (worldAt (beginW ths) ms j) t (some j)
  refine ⟨_, aqsW_mem.2 (.inl ⟨j, _, hlj, ?_, rfl⟩), a1, by rw [a2, hpl]⟩
  rw [takeB, evAt_txt (R.st j) ht (by rw [hpl]; exact hi), stp_txt S.n5 (S.iok ht hi)]
  rfl
theorem ask_wt {P : List (List Ins)} {WE : Wd} (h : St P WE) {t : Nat} (ht : t < P.length) (h2 : stateOf WE t = 2) : ∃ x ∈ aqsW WE, x.th = t ∧ x.pl = pl WE t := by
  obtain ⟨a1, a2, _⟩ := aqE_evAt WE t none
  refine ⟨_, aqsW_mem.2 (.inr ⟨evAt WE t, ?_, rfl⟩), a1, a2⟩
  rw [wantsE, List.mem_map]
  exact ⟨t, List.mem_filter.2 ⟨List.mem_range.2 (by rw [h.len]; exact ht), decide_eq_true h2⟩, rfl⟩
theorem aqs1_pw (log : List Ev) : ∀ t, (aqs1 log t).Pairwise fun x y => ¬ (x.ev = y.ev ∧ x.th = y.th)
  | 0 => List.Pairwise.nil
  | t + 1 => by
    rw [aqs1, List.pairwise_append]
    refine ⟨aqs1_pw log t, ?_, fun x hx y hy => ?_⟩
    · cases log[t]? with
      | none => exact List.Pairwise.nil
      | some e =>
        simp only [Option.map_some, Option.getD_some]
        split
        · exact List.pairwise_singleton _ _
        · exact List.Pairwise.nil
    · obtain ⟨i, e, h1, _, _, rfl⟩ := aqs1_mem.1 hx
      cases he : log[t]? with
      | none => rw [he] at hy; simp at hy
      | some e2 =>
        rw [he] at hy
        simp only [Option.map_some, Option.getD_some] at hy
        split at hy
        · rw [List.mem_singleton.1 hy]
          rintro ⟨h3, _⟩
          simp only [aqE, Option.some.injEq] at h3
          omega
        · cases hy
theorem aqs2_pw (W : Wd) (n : Nat) : (aqs2 (wantsE W n)).Pairwise fun x y => ¬ (x.ev = y.ev ∧ x.th = y.th) := by
  rw [aqs2, wantsE, List.map_map, List.pairwise_map]
  refine List.Pairwise.imp ?_ (List.Pairwise.filter _ List.pairwise_lt_range)
  intro a b hab ⟨_, h2⟩
  have h3 := (aqE_evAt W a none).1
  have h4 := (aqE_evAt W b none).1
  simp only [Function.comp] at h2
  rw [h3, h4] at h2
  omega
theorem aqsW_pw (W : Wd) : (aqsW W).Pairwise fun x y => ¬ (x.ev = y.ev ∧ x.th = y.th) := by
  rw [aqsW, List.pairwise_append]
  refine ⟨aqs1_pw _ _, aqs2_pw _ _, fun x hx y hy ⟨h, _⟩ => ?_⟩
  obtain ⟨i, e, _, _, _, rfl⟩ := aqs1_mem.1 hx
  rw [aqs2, List.mem_map] at hy
  obtain ⟨e2, _, rfl⟩ := hy
  cases h
/-- An ask is known by its thread and place. -/
theorem ask_inj {P : List (List Ins)} (S : Shp P) {ths : List ByteArray} (I0 : (beginW ths).Inv) (hp : (beginW ths).prog = prg P) {WE : Wd} {ms : List Nat} (h : goL (beginW ths) ms = some WE) {i j : Nat} (hi : i < (aqsW WE).length) (hj : j < (aqsW WE).length)
    (h1 : (aqOf (aqsW WE) i).th = (aqOf (aqsW WE) j).th) (h2 : (aqOf (aqsW WE) i).pl = (aqOf (aqsW WE) j).pl) : i = j := by
  have R := rn_of S I0 hp h
  obtain ⟨a, A⟩ := ask_st S I0 hp h (aqOf_mem hi)
  obtain ⟨b, B⟩ := ask_st S I0 hp h (aqOf_mem hj)
  have hab : pl (worldAt (beginW ths) ms a) (aqOf (aqsW WE) i).th = pl (worldAt (beginW ths) ms b) (aqOf (aqsW WE) i).th := by rw [A.pl, h1, B.pl, h2]
  have hev : (aqOf (aqsW WE) i).ev = (aqOf (aqsW WE) j).ev := by
    rcases A.ev with ⟨e1, e2, e3⟩ | ⟨e1, e2⟩
    · rcases B.ev with ⟨f1, f2, f3⟩ | ⟨f1, f2⟩
      · rw [e1, f1]
        rcases Nat.lt_trichotomy a b with g | g | g
        · have := R.up g (by omega) e3; omega
        · rw [g]
        · have := R.up g (by omega) (by rw [f3, ← h1]); omega
      · subst f2
        have := R.up e2 (Nat.le_refl _) e3; omega
    · rcases B.ev with ⟨f1, f2, f3⟩ | ⟨f1, f2⟩
      · subst e2
        have := R.up f2 (Nat.le_refl _) (by rw [f3, ← h1]); omega
      · rw [e1, f1]
  have hpw := List.pairwise_iff_getElem.1 (aqsW_pw WE)
  have ei : aqOf (aqsW WE) i = (aqsW WE)[i] := by rw [aqOf, List.getElem?_eq_getElem hi]; rfl
  have ej : aqOf (aqsW WE) j = (aqsW WE)[j] := by rw [aqOf, List.getElem?_eq_getElem hj]; rfl
  rw [ei, ej] at hev h1
  rcases Nat.lt_trichotomy i j with g | g | g
  · exact absurd ⟨hev, h1⟩ (hpw i j hi hj g)
  · exact g
  · exact absurd ⟨hev.symm, h1.symm⟩ (hpw j i hj hi g)

/-- What the asks of a wheel are. -/
structure WAsk (n mode : Nat) (la : List Aq) (q : Nat → Nat) (ix : Nat → Nat) : Prop where
  all : ∀ x ∈ la, 1 ≤ x.th ∧ x.th ≤ n ∧ ((x.k = x.th - 1 ∧ ∀ y ∈ x.hl, mode = 1 ∧ y = 5) ∨ (x.k = 5 ∧ x.hl = []) ∨ (x.k = x.th % n ∧ x.pl = q x.th ∧ ∀ y, y ∈ x.hl ↔ y = x.th - 1 ∨ (mode = 1 ∧ y = 5)))
  lt : ∀ t, 1 ≤ t → t ≤ n → ix t < la.length
  at' : ∀ t, 1 ≤ t → t ≤ n → (aqOf la (ix t)).th = t ∧ (aqOf la (ix t)).pl = q t
  uq : ∀ i t, 1 ≤ t → t ≤ n → i < la.length → (aqOf la i).th = t → (aqOf la i).pl = q t → i = ix t
  nx : ∀ t, 1 ≤ t → t ≤ n → (aqOf la (ix t)).k = t % n ∧ ∀ y, y ∈ (aqOf la (ix t)).hl ↔ y = t - 1 ∨ (mode = 1 ∧ y = 5)
theorem wask_of {n mode : Nat} {P : List (List Ins)} {q : Nat → Nat} (C : Whl n mode P q) {ths : List ByteArray} (I0 : (beginW ths).Inv) (hp : (beginW ths).prog = prg P) {WE : Wd} {ms : List Nat} (h : goL (beginW ths) ms = some WE) (hn : ∀ t, t < P.length → stateOf WE t ≠ 1) : ∃ ix, WAsk n mode (aqsW WE) q ix := by
  have S := C.shp
  have hs := st_goL S _ _ _ (st_begin I0 hp) h
  have n4 := C.n4
  have hex : ∀ t, 1 ≤ t → t ≤ n → ∃ i, i < (aqsW WE).length ∧ (aqOf (aqsW WE) i).th = t ∧ (aqOf (aqsW WE) i).pl = q t := fun t h0 h1 => by
    obtain ⟨_, bq, _⟩ := C.b t h0 h1
    have hx : ∃ x ∈ aqsW WE, x.th = t ∧ x.pl = q t := by
      rcases (wh_end C hs hn h0 h1).2 with ⟨e, _⟩ | ⟨_, e1, e2⟩
      · refine ask_ev S I0 hp h (k := t % n) ?_ bq
        rw [e]; exact (List.getElem?_eq_some_iff.1 bq).1
      · rw [← e1]
        exact ask_wt hs (by have := C.len; omega) e2
    obtain ⟨x, hx, h2⟩ := hx
    obtain ⟨i, hi⟩ := List.getElem?_of_mem hx
    exact ⟨i, (List.getElem?_eq_some_iff.1 hi).1, by rw [aqOf_get hi]; exact h2⟩
  have hix : ∃ ix : Nat → Nat, ∀ t, 1 ≤ t → t ≤ n → ix t < (aqsW WE).length ∧ (aqOf (aqsW WE) (ix t)).th = t ∧ (aqOf (aqsW WE) (ix t)).pl = q t := by
    refine ⟨fun t => if h : ∃ i, i < (aqsW WE).length ∧ (aqOf (aqsW WE) i).th = t ∧ (aqOf (aqsW WE) i).pl = q t then Classical.choose h else 0, fun t h0 h1 => ?_⟩
    have := hex t h0 h1
    simp only [dif_pos this]
    exact Classical.choose_spec this
  obtain ⟨ix, hix⟩ := hix
  have hall : ∀ x ∈ aqsW WE, 1 ≤ x.th ∧ x.th ≤ n ∧ ((x.k = x.th - 1 ∧ ∀ y ∈ x.hl, mode = 1 ∧ y = 5) ∨ (x.k = 5 ∧ x.hl = []) ∨ (x.k = x.th % n ∧ x.pl = q x.th ∧ ∀ y, y ∈ x.hl ↔ y = x.th - 1 ∨ (mode = 1 ∧ y = 5))) := fun x hx => by
    obtain ⟨j, A⟩ := ask_st S I0 hp h hx
    obtain ⟨h0, h1, hk, _, hT⟩ := C.takes A.it
    refine ⟨h0, h1, ?_⟩
    rcases hT with ⟨e1, e2⟩ | ⟨_, e1, e2⟩ | ⟨e1, e2, e3⟩
    · refine .inl ⟨e1, fun y hy => ?_⟩
      obtain ⟨hy6, hy2⟩ := (A.hl y).1 hy
      rw [e2 y hy6, Bool.and_eq_true, decide_eq_true_iff, decide_eq_true_iff] at hy2
      exact hy2
    · refine .inr (.inl ⟨e1, List.eq_nil_iff_forall_not_mem.2 fun y hy => ?_⟩)
      obtain ⟨hy6, hy2⟩ := (A.hl y).1 hy
      rw [e2 y hy6] at hy2
      cases hy2
    · refine .inr (.inr ⟨e1, e2, fun y => ?_⟩)
      rw [A.hl y]
      constructor
      · rintro ⟨hy6, hy2⟩
        rw [e3 y hy6, Bool.or_eq_true, Bool.and_eq_true, decide_eq_true_iff, decide_eq_true_iff, decide_eq_true_iff] at hy2
        exact hy2
      · intro hy
        have hy6 : y < 6 := by omega
        refine ⟨hy6, ?_⟩
        rw [e3 y hy6, Bool.or_eq_true, Bool.and_eq_true, decide_eq_true_iff, decide_eq_true_iff, decide_eq_true_iff]
        exact hy
  refine ⟨ix, hall, fun t h0 h1 => (hix t h0 h1).1, fun t h0 h1 => (hix t h0 h1).2, fun i t h0 h1 hi e1 e2 => ?_, fun t h0 h1 => ?_⟩
  · obtain ⟨f1, f2, f3⟩ := hix t h0 h1
    exact ask_inj S I0 hp h hi f1 (by rw [e1, f2]) (by rw [e2, f3])
  · obtain ⟨f1, f2, f3⟩ := hix t h0 h1
    obtain ⟨j, A⟩ := ask_st S I0 hp h (aqOf_mem f1)
    obtain ⟨_, bq, _⟩ := C.b t h0 h1
    have hit := A.it
    rw [f2, f3, bq] at hit
    have hk : (aqOf (aqsW WE) (ix t)).k = t % n := by
      simp only [Option.some.injEq, Ins.take.injEq] at hit
      exact hit.symm
    obtain ⟨m1, m2⟩ := mod_ne C.n2 h0 h1
    refine ⟨hk, ?_⟩
    rcases (hall _ (aqOf_mem f1)).2.2 with ⟨e1, _⟩ | ⟨e1, _⟩ | ⟨_, _, e3⟩
    · rw [hk, f2] at e1; omega
    · rw [hk] at e1; omega
    · rw [f2] at e3; exact e3

def whC (n : Nat) (ix : Nat → Nat) : List Nat := (List.range n).map fun i => ix (i + 1)
theorem whC_len (n : Nat) (ix : Nat → Nat) : (whC n ix).length = n := by simp [whC]
theorem whC_at {n : Nat} (ix : Nat → Nat) {i : Nat} (hi : i < n) : pAt (whC n ix) i = ix (i + 1) := by
  refine pAt_get ?_
  rw [whC, List.getElem?_map, List.getElem?_range hi]; rfl
theorem share_iff {a : Nat} {l : List Nat} : shareB [a] l = true ↔ a ∈ l := by
  rw [shareB, decide_eq_true_iff]
  constructor
  · rintro ⟨x, h1, h2⟩
    rw [List.mem_singleton.1 h1] at h2; exact h2
  · exact fun h => ⟨a, List.mem_singleton.2 rfl, h⟩
theorem wh_circ {n mode : Nat} (n2 : 2 ≤ n) {la : List Aq} {q ix : Nat → Nat} (A : WAsk n mode la q ix) : CircP la (whC n ix) := by
  refine ⟨by rw [whC_len]; omega, fun i hi => ?_⟩
  rw [whC_len] at hi ⊢
  have hlt := Nat.mod_lt (i + 1) (show 0 < n by omega)
  refine ⟨?_, ?_, fun j hj => ?_⟩
  · rw [whC_at ix hi, whC_at ix hlt, hasB, share_iff, ((A.nx _ (by omega) (by omega)).2 _), (A.nx _ (by omega) (by omega)).1]
    exact .inl (by omega)
  · rw [whC_at ix hi, whC_at ix (show 0 < n by omega), (A.at' _ (by omega) (by omega)).1, (A.at' _ (by omega) (by omega)).1]
    omega
  · rw [whC_at ix hi, whC_at ix (show j < n by omega), apartB, (A.at' _ (by omega) (by omega)).1, (A.at' _ (by omega) (by omega)).1, (A.nx _ (by omega) (by omega)).1, (A.nx _ (by omega) (by omega)).1]
    have h1 : (j + 1) % n = j + 1 := Nat.mod_eq_of_lt (by omega)
    have h2 : (j + 1) % n ≠ (i + 1) % n := by
      rcases Nat.lt_or_ge (i + 1) n with h | h
      · rw [h1, Nat.mod_eq_of_lt h]; omega
      · have : i + 1 = n := by omega
        rw [h1, this, Nat.mod_self]; omega
    rw [decide_eq_false (by omega), decide_eq_false h2]; rfl
theorem wheel_seq {n L : Nat} {f : Nat → Nat} (hn : 2 ≤ n) (hL : 0 < L) (h1 : ∀ i, i < L → 1 ≤ f i ∧ f i ≤ n) (hf : ∀ i, i < L → f ((i + 1) % L) = f i % n + 1) (hm : ∀ i, i < L → f 0 ≤ f i) (hi : ∀ i j, j < i → i < L → f j ≠ f i) : L = n ∧ ∀ i, i < L → f i = i + 1 := by
  have hl := hf (L - 1) (by omega)
  rw [show L - 1 + 1 = L by omega, Nat.mod_self] at hl
  have hl1 := h1 (L - 1) (by omega)
  have hl2 := hm (L - 1) (by omega)
  have hn1 : f (L - 1) = n := by
    rcases Nat.lt_or_ge (f (L - 1)) n with h | h
    · rw [Nat.mod_eq_of_lt h] at hl; omega
    · omega
  have h0 : f 0 = 1 := by rw [hl, hn1, Nat.mod_self]
  have hall : ∀ i, i < L → f i = i + 1 := by
    intro i
    induction i with
    | zero => intro _; exact h0
    | succ i ih =>
      intro hlt
      have h3 := hf i (by omega)
      rw [Nat.mod_eq_of_lt hlt, ih (by omega)] at h3
      have h4 := h1 i (by omega)
      rw [ih (by omega)] at h4
      rcases Nat.lt_or_ge (i + 1) n with h | h
      · rw [Nat.mod_eq_of_lt h] at h3; exact h3
      · have : i + 1 = n := by omega
        rw [this, Nat.mod_self] at h3
        have h5 := hi (i + 1) 0 (by omega) hlt
        rw [← this] at h3
        omega
  refine ⟨?_, hall⟩
  have := hall (L - 1) (by omega)
  omega
theorem wh_uniq {n mode : Nat} (n2 : 2 ≤ n) (n4 : n ≤ 4) {la : List Aq} {q ix : Nat → Nat} (A : WAsk n mode la q ix) (r : List Nat) (hin : ∀ i ∈ r, i < la.length) (hc : CircP la r) : r = whC n ix := by
  obtain ⟨hL, hc⟩ := hc
  have hmem : ∀ i, i < r.length → aqOf la (pAt r i) ∈ la := fun i hi => aqOf_mem (hin _ (pAt_mem hi))
  have hprev : ∀ i, i < r.length → ∃ j, j < r.length ∧ (aqOf la (pAt r j)).k ∈ (aqOf la (pAt r i)).hl := fun i hi => by
    have key : ∀ j, j < r.length → (j + 1) % r.length = i → ∃ j, j < r.length ∧ (aqOf la (pAt r j)).k ∈ (aqOf la (pAt r i)).hl := fun j hj e => by
      have h1 := (hc j hj).1
      rw [e] at h1
      exact ⟨j, hj, share_iff.1 h1⟩
    rcases Nat.eq_zero_or_pos i with h | h
    · exact key (r.length - 1) (by omega) (by rw [show r.length - 1 + 1 = r.length by omega, Nat.mod_self, h])
    · exact key (i - 1) (by omega) (by rw [show i - 1 + 1 = i by omega, Nat.mod_eq_of_lt hi])
  have hnB : ∀ i, i < r.length → (aqOf la (pAt r i)).hl ≠ [] := fun i hi e => by
    obtain ⟨j, _, h2⟩ := hprev i hi
    rw [e] at h2; cases h2
  have hk5 : ∀ i, i < r.length → (aqOf la (pAt r i)).k ≠ 5 := fun i hi e => by
    obtain ⟨h0, h1, h2⟩ := A.all _ (hmem i hi)
    rcases h2 with ⟨e1, _⟩ | ⟨_, e2⟩ | ⟨e1, _⟩
    · omega
    · exact hnB i hi e2
    · have := Nat.mod_lt (aqOf la (pAt r i)).th (show 0 < n by omega)
      omega
  have hC : ∀ i, i < r.length → 1 ≤ (aqOf la (pAt r i)).th ∧ (aqOf la (pAt r i)).th ≤ n ∧ (aqOf la (pAt r i)).k = (aqOf la (pAt r i)).th % n ∧ (aqOf la (pAt r i)).pl = q (aqOf la (pAt r i)).th ∧ ∀ y, y ∈ (aqOf la (pAt r i)).hl ↔ y = (aqOf la (pAt r i)).th - 1 ∨ (mode = 1 ∧ y = 5) := fun i hi => by
    obtain ⟨h0, h1, h2⟩ := A.all _ (hmem i hi)
    refine ⟨h0, h1, ?_⟩
    rcases h2 with ⟨_, e2⟩ | ⟨e1, e2⟩ | h2
    · obtain ⟨j, hj, hjk⟩ := hprev i hi
      exact absurd (e2 _ hjk).2 (hk5 j hj)
    · exact absurd e2 (hnB i hi)
    · exact h2
  obtain ⟨hLn, hth⟩ := wheel_seq (n := n) (L := r.length) (f := fun i => (aqOf la (pAt r i)).th) n2 (by omega) (fun i hi => ⟨(hC i hi).1, (hC i hi).2.1⟩) (fun i hi => by
    have h1 := share_iff.1 (hc i hi).1
    obtain ⟨g0, g1, _, _, g2⟩ := hC ((i + 1) % r.length) (Nat.mod_lt _ (by omega))
    rw [g2, (hC i hi).2.2.1] at h1
    have := Nat.mod_lt (aqOf la (pAt r i)).th (show 0 < n by omega)
    show (aqOf la (pAt r ((i + 1) % r.length))).th = (aqOf la (pAt r i)).th % n + 1
    omega) (fun i hi => (hc i hi).2.1) (fun i j hj hi e => by
    have := (hc i hi).2.2 j hj
    rw [apartB, decide_eq_true (show (aqOf la (pAt r j)).th = (aqOf la (pAt r i)).th from e)] at this
    cases this)
  apply List.ext_getElem?
  intro i
  rcases Nat.lt_or_ge i n with hi | hi
  · have hi' : i < r.length := by omega
    have e1 : r[i]? = some (pAt r i) := by rw [pAt, List.getElem?_eq_getElem hi']; rfl
    have e2 : (whC n ix)[i]? = some (ix (i + 1)) := by rw [whC, List.getElem?_map, List.getElem?_range hi]; rfl
    have ht := hth i hi'
    rw [e1, e2, A.uq (pAt r i) (i + 1) (by omega) (by omega) (hin _ (pAt_mem hi')) ht (by rw [(hC i hi').2.2.2.1]; rw [show (aqOf la (pAt r i)).th = i + 1 from ht])]
  · rw [List.getElem?_eq_none (by omega), List.getElem?_eq_none (by rw [whC_len]; exact hi)]
theorem wh_find {n mode : Nat} (n2 : 2 ≤ n) (n4 : n ≤ 4) {la : List Aq} {q ix : Nat → Nat} (A : WAsk n mode la q ix) : findS la 100 = ([whC n ix], false) := by
  refine find_one (fun i hi => ?_) (wh_circ n2 A) (by rw [whC_len]; omega) (fun r hin hc => wh_uniq n2 n4 A r hin hc)
  obtain ⟨j, hj, rfl⟩ := List.mem_map.1 hi
  have := List.mem_range.1 hj
  exact A.lt _ (by omega) (by omega)
end Go.Proofs.YtdfndcbakcmgiabDoor
namespace Go.Proofs.YtdfndcbakcmgiabDoor

/-! What is said of a wheel's circle (pure). -/
theorem lead_ld (log : List Ev) (i k : Nat) : ldL (log.map mvE) i k = leadB log i k := by
  unfold ldL leadB
  rw [List.getElem?_map, List.getElem?_map]
  cases log[i]? with
  | none => rfl
  | some a =>
    cases log[k]? with
    | none => rfl
    | some b => rfl
theorem lead_fun (log : List Ev) : ldL (log.map mvE) = leadB log := by
  funext i k; exact lead_ld log i k
theorem bf_iff {log : List Ev} (hl : log.length ≤ 60) {i j : Int} : bfL (log.map mvE) i j = true ↔ ∃ a b : Nat, i = a ∧ j = b ∧ b < log.length ∧ Ch (leadB log) b a := by
  rw [bfL, Bool.and_eq_true, decide_eq_true_iff, List.length_map, lead_fun]
  constructor
  · rintro ⟨⟨h1, h2, h3⟩, h4⟩
    obtain ⟨a, rfl⟩ : ∃ a : Nat, i = a := ⟨i.toNat, by omega⟩
    obtain ⟨b, rfl⟩ : ∃ b : Nat, j = b := ⟨j.toNat, by omega⟩
    rw [Int.toNat_natCast, Int.toNat_natCast, getD_true, aheadS_iff _ b (by omega)] at h4
    refine ⟨a, b, rfl, rfl, by omega, ?_⟩
    rcases h4 with h4 | h4
    · omega
    · exact h4
  · rintro ⟨a, b, rfl, rfl, h1, h2⟩
    have := h2.lt
    refine ⟨⟨by omega, by omega, by omega⟩, ?_⟩
    rw [Int.toNat_natCast, Int.toNat_natCast, getD_true, aheadS_iff _ b (by omega)]
    exact .inr h2

/-- An event of a run. -/
structure Evt (P : List (List Ins)) (log : List Ev) (T : Nat → Nat) (ws : Nat → Wd) (i : Nat) (x : Ins) : Prop where
  it : (th P (T i))[pl (ws i) (T i)]? = some x
  lg : log[i]? = some (evAt (ws i) (T i))
  sp : stpOf (evAt (ws i) (T i)).txt = x.stp
  lt : T i < P.length
theorem evt_of {P : List (List Ins)} (S : Shp P) {ths : List ByteArray} (I0 : (beginW ths).Inv) (hp : (beginW ths).prog = prg P) {WE : Wd} {ms : List Nat} (h : goL (beginW ths) ms = some WE) {i : Nat} (hi : i < ms.length) : ∃ x, Evt P WE.log (thAt ms) (worldAt (beginW ths) ms) i x := by
  have R := rn_of S I0 hp h
  obtain ⟨x, M⟩ := R.mv i hi
  obtain ⟨_, hlg⟩ := log_of h (begin_log0 ths) ms.length (Nat.le_refl _)
  rw [worldAt_end h] at hlg
  refine ⟨x, M.it, hlg i hi, ?_, R.lt i hi⟩
  rw [evAt_txt (R.st i) (R.lt i hi) M.it, stp_txt S.n5 (S.iok (R.lt i hi) M.it)]
theorem log_len {ths : List ByteArray} {WE : Wd} {ms : List Nat} (h : goL (beginW ths) ms = some WE) : WE.log.length = ms.length := by
  have := goL_len _ _ _ h
  rw [begin_log0] at this
  simpa using this
theorem lead_cases {P : List (List Ins)} {log : List Ev} {T : Nat → Nat} {ws : Nat → Wd} {i k : Nat} {x y : Ins} (a : Evt P log T ws i x) (b : Evt P log T ws k y) : leadB log i k = true ↔ T i = T k ∨ x = .start (T k) ∨ ∃ u, y = .join u ∧ (u = T i ∨ x = .start u) := by
  rw [leadB_at a.lg b.lg, strE, strB, a.sp, b.sp]
  have e1 : (evAt (ws i) (T i)).thread.toNat = T i := by simp [evAt]
  have e2 : (evAt (ws k) (T k)).thread.toNat = T k := by simp [evAt]
  rw [e1, e2]
  have hst : ∀ v : Nat, (x.stp.kind = 6 ∧ x.stp.which = (v : Int)) ↔ x = .start v := fun v => by
    cases x <;> simp [Ins.stp] <;> omega
  simp only [Bool.or_eq_true, Bool.and_eq_true, decide_eq_true_iff, hst]
  have hj : (y.stp.kind = 7 ∧ (y.stp.which = (T i : Int) ∨ (x.stp.kind = 6 ∧ x.stp.which = y.stp.which))) ↔ ∃ u, y = .join u ∧ (u = T i ∨ x = .start u) := by
    cases y with
    | join v =>
      constructor
      · rintro ⟨_, h⟩
        refine ⟨v, rfl, ?_⟩
        rcases h with h | h
        · exact .inl (by simp only [Ins.stp] at h; omega)
        · exact .inr ((hst v).1 h)
      · rintro ⟨u, hu, h⟩
        cases hu
        refine ⟨rfl, ?_⟩
        rcases h with h | h
        · exact .inl (by simp only [Ins.stp]; omega)
        · exact .inr ((hst v).2 h)
    | dot => simp [Ins.stp]
    | take v => simp [Ins.stp]
    | give v => simp [Ins.stp]
    | start v => simp [Ins.stp]
  rw [hj]
  exact or_assoc
theorem Whl.nostart {n mode : Nat} {P : List (List Ins)} {q : Nat → Nat} (C : Whl n mode P q) {t m u : Nat} (h0 : 1 ≤ t) (h : (th P t)[m]? = some (.start u)) : False := by
  rcases C.shp.tr t h0 _ (List.mem_of_getElem? h) with e | ⟨_, _, e | e⟩ <;> cases e
theorem Whl.nojoin0 {n : Nat} {P : List (List Ins)} {q : Nat → Nat} (C : Whl n 0 P q) {t m u : Nat} (h : (th P t)[m]? = some (.join u)) : False := by
  rcases Nat.eq_zero_or_pos t with e | e
  · subst e
    have := (C.joins h).1
    cases this
  · exact C.nojoin e h
/-- Without joins what comes ahead of another thread's event is the first thread's. -/
theorem ch_same {n : Nat} {P : List (List Ins)} {q : Nat → Nat} (C : Whl n 0 P q) {ths : List ByteArray} (I0 : (beginW ths).Inv) (hp : (beginW ths).prog = prg P) {WE : Wd} {ms : List Nat} (h : goL (beginW ths) ms = some WE) {j i : Nat} (hc : Ch (leadB WE.log) j i) : 1 ≤ thAt ms i → thAt ms j = thAt ms i := by
  have step : ∀ i k, leadB WE.log i k = true → 1 ≤ thAt ms i → thAt ms k = thAt ms i := fun i k hld h1 => by
    obtain ⟨hi, hk⟩ := leadB_lt hld
    rw [log_len h] at hi hk
    obtain ⟨x, a⟩ := evt_of C.shp I0 hp h hi
    obtain ⟨y, b⟩ := evt_of C.shp I0 hp h hk
    rcases (lead_cases a b).1 hld with e | e | ⟨u, e, _⟩
    · exact e.symm
    · have := a.it
      rw [e] at this
      exact absurd (C.nostart h1 this) id
    · have := b.it
      rw [e] at this
      exact absurd (C.nojoin0 this) id
  induction hc with
  | one h1 h2 => exact fun h3 => step _ _ h2 h3
  | more h1 h2 _ ih =>
    intro h3
    have := step _ _ h2 h3
    rw [ih (by omega), this]
theorem ring_mem {n : Nat} {la : List Aq} {ix : Nat → Nat} {x : Aq} (hx : x ∈ ringOf la (whC n ix)) : ∃ t, 1 ≤ t ∧ t ≤ n ∧ x = aqOf la (ix t) := by
  rw [ringOf, whC, List.map_map] at hx
  obtain ⟨i, hi, rfl⟩ := List.mem_map.1 hx
  have := List.mem_range.1 hi
  exact ⟨i + 1, by omega, by omega, rfl⟩
theorem gated_no {n mode : Nat} {la : List Aq} {q ix : Nat → Nat} (hm : mode ≠ 1) (A : WAsk n mode la q ix) : gatedB (ringOf la (whC n ix)) = false := by
  rw [gatedB, Bool.not_eq_false', decide_eq_true_iff, ringOf, whC, List.map_map, List.pairwise_map, List.pairwise_iff_getElem]
  intro i j hi hj hij
  simp only [List.length_range] at hi hj
  simp only [List.getElem_range, Function.comp]
  rw [shareB, decide_eq_false_iff_not]
  rintro ⟨y, h1, h2⟩
  have g1 := ((A.nx (j + 1) (by omega) (by omega)).2 y).1 h1
  have g2 := ((A.nx (i + 1) (by omega) (by omega)).2 y).1 h2
  omega
theorem gated_yes {n : Nat} (n2 : 2 ≤ n) {la : List Aq} {q ix : Nat → Nat} (A : WAsk n 1 la q ix) : gatedB (ringOf la (whC n ix)) = true := by
  rw [gatedB, Bool.not_eq_true', decide_eq_false_iff_not, ringOf, whC, List.map_map, List.pairwise_map, List.pairwise_iff_getElem]
  intro h
  have := h 0 1 (by simp; omega) (by simp; omega) (by decide)
  simp only [List.getElem_range, Function.comp] at this
  rw [shareB, decide_eq_false_iff_not] at this
  exact this ⟨5, ((A.nx 2 (by omega) (by omega)).2 5).2 (.inr ⟨rfl, rfl⟩), ((A.nx 1 (by omega) (by omega)).2 5).2 (.inr ⟨rfl, rfl⟩)⟩
theorem evI_nat {o : Option Nat} {a : Nat} (h : evI o = (a : Int)) : o = some a := by
  cases o with
  | none => simp only [evI] at h; omega
  | some b => simp only [evI] at h; congr 1; omega
theorem lastN_th {ths : List ByteArray} {WE : Wd} {ms : List Nat} (h : goL (beginW ths) ms = some WE) {t m e : Nat} (he : lastN (WE.log.map mvE) t m = some e) (hm : m ≤ ms.length) : e < m ∧ thAt ms e = t := by
  obtain ⟨h1, h2⟩ := lastN_lt he
  obtain ⟨_, hlg⟩ := log_of h (begin_log0 ths) ms.length (Nat.le_refl _)
  rw [worldAt_end h] at hlg
  refine ⟨h1, ?_⟩
  rw [List.getElem?_map, hlg e (by omega)] at h2
  simp only [Option.map_some, Option.getD_some, decide_eq_true_eq] at h2
  rw [← h2]
  simp [mvE, evAt]
theorem ordered_no {n : Nat} {P : List (List Ins)} {q : Nat → Nat} (C : Whl n 0 P q) {ths : List ByteArray} (I0 : (beginW ths).Inv) (hp : (beginW ths).prog = prg P) {WE : Wd} {ms : List Nat} (h : goL (beginW ths) ms = some WE) {ix : Nat → Nat} (A : WAsk n 0 (aqsW WE) q ix) : orderedB (WE.log.map mvE) (ringOf (aqsW WE) (whC n ix)) = false := by
  rw [Bool.eq_false_iff]
  intro hh
  obtain ⟨x, hx, hx2⟩ := List.any_eq_true.1 hh
  obtain ⟨y, hy, hxy⟩ := List.any_eq_true.1 hx2
  obtain ⟨t, t0, t1, rfl⟩ := ring_mem hx
  obtain ⟨u, u0, u1, rfl⟩ := ring_mem hy
  have hl := log_len h
  have h60 := (goL_60 I0 h).1
  obtain ⟨jx, X⟩ := ask_st C.shp I0 hp h (aqOf_mem (A.lt t t0 t1))
  obtain ⟨jy, Y⟩ := ask_st C.shp I0 hp h (aqOf_mem (A.lt u u0 u1))
  have xt := (A.at' t t0 t1).1
  have yt := (A.at' u u0 u1).1
  have key : ∀ m : Nat, bfL (WE.log.map mvE) (evI (aqOf (aqsW WE) (ix t)).ev) (m : Int) = true → thAt ms m = u → t = u ∧ ∃ a, (aqOf (aqsW WE) (ix t)).ev = some a ∧ a < m := fun m hb hm => by
    obtain ⟨a, b, ha, hb2, hb3, hch⟩ := (bf_iff (by omega)).1 hb
    have hmb : m = b := by omega
    subst hmb
    have hev := evI_nat ha
    have hTa : thAt ms a = t := by
      rcases X.ev with ⟨e1, _, e3⟩ | ⟨e1, _⟩
      · rw [hev] at e1
        cases e1
        rw [e3, xt]
      · rw [hev] at e1; cases e1
    have := ch_same C I0 hp h hch (by omega)
    exact ⟨by omega, a, hev, hch.lt⟩
  unfold cAB at hxy
  cases hev : (aqOf (aqsW WE) (ix u)).ev with
  | some m =>
    rw [hev] at hxy
    have hTm : thAt ms m = u := by
      rcases Y.ev with ⟨e1, _, e3⟩ | ⟨e1, _⟩
      · rw [hev] at e1
        cases e1
        rw [e3, yt]
      · rw [hev] at e1; cases e1
    obtain ⟨rfl, a, h1, h2⟩ := key m hxy hTm
    rw [hev] at h1
    cases h1
    omega
  | none =>
    rw [hev] at hxy
    simp only at hxy
    cases hq : lastQ (WE.log.map mvE) (aqOf (aqsW WE) (ix u)) with
    | none => rw [hq] at hxy; cases hxy
    | some e =>
      rw [hq] at hxy
      have hT := (lastN_th h (t := (aqOf (aqsW WE) (ix u)).th) (m := ms.length) (e := e) (by rw [lastQ, toN, hev, List.length_map, hl] at hq; exact hq) (Nat.le_refl _)).2
      rw [yt] at hT
      obtain ⟨rfl, a, h1, _⟩ := key e hxy hT
      rw [hev] at h1
      cases h1

/-- The events ahead of the asks for the next one's lock are closed. -/
def mrk (N : Nat) (T : Nat → Nat) (ws : Nat → Wd) (q : Nat → Nat) : List Bool := (List.range 60).map fun i => decide (i < N ∧ (T i = 0 ∨ pl (ws i) (T i) < q (T i)))
theorem mrk_iff {N : Nat} {T : Nat → Nat} {ws : Nat → Wd} {q : Nat → Nat} (hN : N ≤ 60) {i : Nat} : (mrk N T ws q)[i]? = some true ↔ i < N ∧ (T i = 0 ∨ pl (ws i) (T i) < q (T i)) := by
  rw [mrk, List.getElem?_map]
  rcases Nat.lt_or_ge i 60 with h | h
  · rw [List.getElem?_range h]
    simp
  · rw [List.getElem?_eq_none (by simpa using h)]
    constructor
    · intro e; cases e
    · intro e; omega
theorem mrk_closed {n : Nat} {P : List (List Ins)} {q : Nat → Nat} (C : Whl n 0 P q) {ths : List ByteArray} (I0 : (beginW ths).Inv) (hp : (beginW ths).prog = prg P) {WE : Wd} {ms : List Nat} (h : goL (beginW ths) ms = some WE) : ClosedS WE.log (mrk ms.length (thAt ms) (worldAt (beginW ths) ms) q) := by
  have hl := log_len h
  have h60 := (goL_60 I0 h).1
  have R := rn_of C.shp I0 hp h
  intro j hj i hN
  obtain ⟨hjN, hjM⟩ := (mrk_iff h60).1 hj
  obtain ⟨xj, ej⟩ := evt_of C.shp I0 hp h hjN
  cases hN with
  | ahead h1 h2 =>
    have hch := (aheadR_iff WE.log j (by omega) i).1 h2
    refine (mrk_iff h60).2 ⟨by omega, ?_⟩
    rcases Nat.eq_zero_or_pos (thAt ms i) with h0 | h0
    · exact .inl h0
    · have hs := ch_same C I0 hp h hch h0
      rcases hjM with h3 | h3
      · omega
      · right
        rw [hs] at h3
        have := R.up h1 (by omega) (t := thAt ms i) rfl
        omega
  | flag b u hb hk _ _ =>
    rw [ej.lg] at hb
    cases hb
    rw [ej.sp] at hk
    cases xj <;> simp [Ins.stp] at hk
  | give b a u k hb hbk hbw hkj hkm ha hak haw hg =>
    exfalso
    obtain ⟨hkN, hkM⟩ := (mrk_iff h60).1 hkm
    obtain ⟨xk, ek⟩ := evt_of C.shp I0 hp h hkN
    rw [ej.lg] at hb
    cases hb
    rw [ek.lg] at ha
    cases ha
    rw [ej.sp] at hbk hbw
    rw [ek.sp] at hak haw
    have hjt : xj = .take u := by
      cases xj <;> simp [Ins.stp] at hbk hbw
      congr 1; omega
    have hkt : xk = .take u := by
      cases xk <;> simp [Ins.stp] at hak haw
      congr 1; omega
    have own : ∀ i, (th P (thAt ms i))[pl (worldAt (beginW ths) ms i) (thAt ms i)]? = some (.take u) → (thAt ms i = 0 ∨ pl (worldAt (beginW ths) ms i) (thAt ms i) < q (thAt ms i)) → 1 ≤ thAt ms i ∧ thAt ms i ≤ n ∧ u = thAt ms i - 1 := fun i hi hM => by
      obtain ⟨c0, c1, _, _, c2⟩ := C.takes hi
      refine ⟨c0, c1, ?_⟩
      rcases c2 with ⟨d1, _⟩ | ⟨d1, _⟩ | ⟨_, d2, _⟩
      · exact d1
      · cases d1
      · omega
    obtain ⟨a0, a1, a2⟩ := own j (by rw [← hjt]; exact ej.it) hjM
    obtain ⟨b0, b1, b2⟩ := own k (by rw [← hkt]; exact ek.it) hkM
    have hT : thAt ms k = thAt ms j := by omega
    have hup := R.up hkj (by omega) hT
    obtain ⟨d1, _, _, _, _, d6⟩ := C.b (thAt ms j) a0 a1
    have i1 := ek.it
    have i2 := ej.it
    rw [hkt, hT, a2] at i1
    rw [hjt, a2] at i2
    have l1 := (List.getElem?_eq_some_iff.1 i1).1
    have l2 := (List.getElem?_eq_some_iff.1 i2).1
    exact d6.2 _ (by omega) _ (by omega) hup i1 i2
theorem bound_no {n : Nat} {P : List (List Ins)} {q : Nat → Nat} (C : Whl n 0 P q) {ths : List ByteArray} (I0 : (beginW ths).Inv) (hp : (beginW ths).prog = prg P) {WE : Wd} {ms : List Nat} (h : goL (beginW ths) ms = some WE) {ix : Nat → Nat} (A : WAsk n 0 (aqsW WE) q ix) :
    boundB (ringOf (aqsW WE) (whC n ix)) (closeF WE.log (aheadL (WE.log.map mvE) (ringOf (aqsW WE) (whC n ix)))) = false := by
  have hl := log_len h
  have h60 := (goL_60 I0 h).1
  have R := rn_of C.shp I0 hp h
  obtain ⟨m, hM, hCl, hF⟩ := closeF_spec WE.log (by omega) (aheadL (WE.log.map mvE) (ringOf (aqsW WE) (whC n ix))) (fun i hi => by have := aheadL_in _ _ i hi; rw [List.length_map] at this; exact this)
  have hsub := hM.least _ (mrk_closed C I0 hp h) (fun j hj => by
    obtain ⟨hj60, y, hy, e⟩ := (markE_iff 60 _ j).1 hj
    obtain ⟨i, hi, rfl⟩ := List.mem_map.1 hy
    rw [Int.toNat_natCast] at e
    subst e
    obtain ⟨x, hx, hx2⟩ := List.mem_filterMap.1 hi
    obtain ⟨t, t0, t1, rfl⟩ := ring_mem hx
    obtain ⟨jx, X⟩ := ask_st C.shp I0 hp h (aqOf_mem (A.lt t t0 t1))
    obtain ⟨xt, xp⟩ := A.at' t t0 t1
    have hpl := X.pl
    rw [xt, xp] at hpl
    rw [lastQ, toN, xt, List.length_map, hl] at hx2
    have hlt : i < jx ∧ thAt ms i = t := by
      rcases X.ev with ⟨e1, e2, _⟩ | ⟨e1, e2⟩
      · rw [e1] at hx2
        simp only at hx2
        rw [Nat.min_eq_left (by omega)] at hx2
        exact lastN_th h hx2 (by omega)
      · rw [e1] at hx2
        simp only at hx2
        rw [e2]
        exact lastN_th h hx2 (Nat.le_refl _)
    refine (mrk_iff h60).2 ⟨by have := X.le; omega, .inr ?_⟩
    have := R.up hlt.1 X.le hlt.2
    rw [hlt.2]
    omega)
  rw [← hF, boundB, decide_eq_false_iff_not]
  rintro ⟨x, hx, e, he, hev⟩
  obtain ⟨t, t0, t1, rfl⟩ := ring_mem hx
  obtain ⟨jx, X⟩ := ask_st C.shp I0 hp h (aqOf_mem (A.lt t t0 t1))
  obtain ⟨xt, xp⟩ := A.at' t t0 t1
  have hme : m[e]? = some true := by
    rw [listB, List.mem_filter] at he
    exact getD_true.1 he.2
  obtain ⟨_, h2⟩ := (mrk_iff h60).1 (hsub e hme)
  rcases X.ev with ⟨e1, _, e3⟩ | ⟨e1, _⟩
  · rw [hev] at e1
    cases e1
    have hpl := X.pl
    rw [xt, xp] at hpl
    rw [e3, xt] at h2
    omega
  · rw [hev] at e1; cases e1

/-- One after the other. -/
theorem ordered_yes {n : Nat} {P : List (List Ins)} {q : Nat → Nat} (C : Whl n 2 P q) {ths : List ByteArray} (I0 : (beginW ths).Inv) (hp : (beginW ths).prog = prg P) {WE : Wd} {ms : List Nat} (h : goL (beginW ths) ms = some WE) (hn : ∀ t, t < P.length → stateOf WE t ≠ 1) {ix : Nat → Nat} (A : WAsk n 2 (aqsW WE) q ix) : orderedB (WE.log.map mvE) (ringOf (aqsW WE) (whC n ix)) = true := by
  have hl := log_len h
  have h60 := (goL_60 I0 h).1
  have R := rn_of C.shp I0 hp h
  have n2 := C.n2
  have hE := worldAt_end h
  have hs := st_goL C.shp _ _ _ (st_begin I0 hp) h
  have hend : ∀ t, 1 ≤ t → t ≤ n → ∃ a, (aqOf (aqsW WE) (ix t)).ev = some a ∧ a < ms.length ∧ thAt ms a = t ∧ pl (worldAt (beginW ths) ms a) t = q t ∧ q t < (th P t).length := fun t t0 t1 => by
    obtain ⟨jx, X⟩ := ask_st C.shp I0 hp h (aqOf_mem (A.lt t t0 t1))
    obtain ⟨xt, xp⟩ := A.at' t t0 t1
    have hpl := X.pl
    rw [xt, xp] at hpl
    obtain ⟨_, bq, _⟩ := C.b t t0 t1
    have hq := (List.getElem?_eq_some_iff.1 bq).1
    rcases X.ev with ⟨e1, e2, e3⟩ | ⟨_, e2⟩
    · exact ⟨jx, e1, e2, by rw [e3, xt], hpl, hq⟩
    · rw [e2, hE] at hpl
      rcases (wh_end C hs hn t0 t1).2 with ⟨e, _⟩ | ⟨e, _⟩
      · omega
      · cases e
  obtain ⟨a, a1, a2, a3, a4, a5⟩ := hend 1 (by omega) (by omega)
  obtain ⟨b, b1, b2, b3, b4, _⟩ := hend 2 (by omega) (by omega)
  have hz := wh_zero C hs hn
  have hl0 := C.len0
  rw [if_pos rfl] at hl0
  rw [← hE] at hz
  obtain ⟨c, c1, c2, c3⟩ := R.ex (t := 0) (m := 1) ms.length (Nat.le_refl _) (by omega)
  obtain ⟨d, d1, d2, d3⟩ := R.ex (t := 0) (m := 2) ms.length (Nat.le_refl _) (by omega)
  have jn : (th P 0)[1]? = some (.join 1) := C.join_at (u := 1) (by omega) (by omega)
  have sn : (th P 0)[2]? = some (.start 2) := by
    have := C.start_at (u := 2) (by omega) (by omega)
    rwa [if_pos rfl] at this
  obtain ⟨xa, ea⟩ := evt_of C.shp I0 hp h a2
  obtain ⟨xb, eb⟩ := evt_of C.shp I0 hp h b2
  obtain ⟨xc, ec⟩ := evt_of C.shp I0 hp h c1
  obtain ⟨xd, ed⟩ := evt_of C.shp I0 hp h d1
  have hxc : xc = .join 1 := by
    have := ec.it
    rw [c2, c3, jn] at this
    exact (Option.some.inj this).symm
  have hxd : xd = .start 2 := by
    have := ed.it
    rw [d2, d3, sn] at this
    exact (Option.some.inj this).symm
  have hac : a < c := by
    rcases Nat.lt_or_ge a c with g | g
    · exact g
    · have h1 := R.step c1 0
      rw [if_pos c2.symm] at h1
      have h1' : 1 < pl (worldAt (beginW ths) ms (c + 1)) 0 := by rw [h1, c3]; decide
      have h2 := ((R.st (c + 1)).joined 1 1 h1' jn).1
      rcases Nat.eq_or_lt_of_le g with g2 | g2
      · rw [g2] at c2; omega
      · have h3 := R.le 1 (i := c + 1) (j := a) (by omega) (by omega)
        omega
  have hcd : c < d := by
    rcases Nat.lt_or_ge c d with g | g
    · exact g
    · have := R.le 0 (i := d) (j := c) g (by omega)
      omega
  have hdb : d < b := by
    rcases Nat.lt_or_ge d b with g | g
    · exact g
    · have h1 := (R.bnLe b2).1
      rw [b3] at h1
      rcases ((R.st b).born 2 (by have := C.len; omega)).1 h1 with h2 | ⟨i, hi, h2⟩
      · omega
      · have h3 := (C.starts h2).2.2
        rw [if_pos rfl] at h3
        have := R.le 0 (i := b) (j := d) g (by omega)
        omega
  have hch : Ch (leadB WE.log) b a :=
    .more hac ((lead_cases ea ec).2 (.inr (.inr ⟨1, hxc, .inl a3.symm⟩))) (.more hcd ((lead_cases ec ed).2 (.inl (by rw [c2, d2]))) (.one hdb ((lead_cases ed eb).2 (.inr (.inl (by rw [b3, hxd]))))))
  have hx : ∀ t, 1 ≤ t → t ≤ n → aqOf (aqsW WE) (ix t) ∈ ringOf (aqsW WE) (whC n ix) := fun t t0 t1 => by
    rw [ringOf, whC, List.map_map]
    exact List.mem_map.2 ⟨t - 1, List.mem_range.2 (by omega), by simp only [Function.comp]; rw [show t - 1 + 1 = t by omega]⟩
  refine List.any_eq_true.2 ⟨_, hx 1 (by omega) (by omega), List.any_eq_true.2 ⟨_, hx 2 (by omega) (by omega), ?_⟩⟩
  unfold cAB
  rw [a1, b1]
  exact (bf_iff (by omega)).2 ⟨a, b, rfl, rfl, by omega, hch⟩
/-- What is said of the circle. -/
theorem wh_verdict {n mode : Nat} {P : List (List Ins)} {q : Nat → Nat} (C : Whl n mode P q) {ths : List ByteArray} (I0 : (beginW ths).Inv) (hp : (beginW ths).prog = prg P) {WE : Wd} {ms : List Nat} (h : goL (beginW ths) ms = some WE) (hn : ∀ t, t < P.length → stateOf WE t ≠ 1) {ix : Nat → Nat} (A : WAsk n mode (aqsW WE) q ix) :
    (rpOf WE.log (aqsW WE) (whC n ix)).vd = if mode = 1 then 1 else if mode = 2 then 2 else 4 := by
  show (judgeV WE.log (ringOf (aqsW WE) (whC n ix))).1 = _
  unfold judgeV
  have hm : mode = 0 ∨ mode = 1 ∨ mode = 2 := by have := C.m3; omega
  rcases hm with rfl | rfl | rfl
  · rw [gated_no (by decide) A, ordered_no C I0 hp h A, bound_no C I0 hp h A]; rfl
  · rw [gated_yes C.n2 A]; rfl
  · rw [gated_no (by decide) A, ordered_yes C I0 hp h hn A]; rfl
end Go.Proofs.YtdfndcbakcmgiabDoor
namespace Go.Proofs.YtdfndcbakcmgiabDoor
open Go.RowKit

/-! A wheel of two has few states (pure). -/
theorem ms_places {P : List (List Ins)} {W V : Wd} (h : St P W) (h' : St P V) (hpos : 0 < P.length) (hpl : ∀ t, t < P.length → pl W t = pl V t) : msOf W = msOf V := by
  have e1 : W.born = V.born := by
    apply List.ext_getElem?
    intro t
    rcases Nat.lt_or_ge t P.length with ht | ht
    · rw [h.bornG ht, h'.bornG ht]
      congr 1
      rw [Bool.eq_iff_iff, h.born t ht, h'.born t ht, hpl 0 hpos]
    · rw [List.getElem?_eq_none (by rw [h.inv.good.ok.nb, h.len]; exact ht), List.getElem?_eq_none (by rw [h'.inv.good.ok.nb, h'.len]; exact ht)]
  have e2 : W.place = V.place := by
    apply List.ext_getElem?
    intro t
    rcases Nat.lt_or_ge t P.length with ht | ht
    · rw [h.place ht, h'.place ht, hpl t ht]
    · rw [List.getElem?_eq_none (by rw [h.inv.good.ok.nl, h.len]; exact ht), List.getElem?_eq_none (by rw [h'.inv.good.ok.nl, h'.len]; exact ht)]
  have e3 : W.has = V.has := by
    apply List.ext_getElem?
    intro k
    rcases Nat.lt_or_ge k 6 with hk | hk
    · rw [h.hasG hk, h'.hasG hk]
      congr 1
      have key : ∀ t, t < P.length → (hs W k = some t ↔ hs V k = some t) := fun t ht => by rw [h.has k t hk ht, h'.has k t hk ht, hpl t ht]
      cases hw : hs W k with
      | none =>
        cases hv : hs V k with
        | none => rfl
        | some u =>
          have := (key u (h'.hsLt hk hv)).2 hv
          rw [hw] at this; cases this
      | some u => exact ((key u (h.hsLt hk hw)).1 hw).symm
    · rw [List.getElem?_eq_none (by rw [h.inv.good.ok.nh]; exact hk), List.getElem?_eq_none (by rw [h'.inv.good.ok.nh]; exact hk)]
  have e4 : W.prog = V.prog := by rw [h.prog, h'.prog]
  simp only [msOf, e1, e2, e3, e4, h.set, h'.set]
theorem count2 {P : List (List Ins)} {q : Nat → Nat} (C : Whl 2 0 P q) {ths : List ByteArray} (I0 : (beginW ths).Inv) (hp : (beginW ths).prog = prg P) {Q : List Nd} (hok : ∀ x ∈ Q, x.Ok (beginW ths)) (hpw : Q.Pairwise fun x y => msOf x.W ≠ msOf y.W) : Q.length ≤ 363 := by
  have hst : ∀ x ∈ Q, St P x.W := fun x hx => st_goL C.shp _ _ _ (st_begin I0 hp) (hok x hx).go
  have hl := C.len
  have hb : ∀ x ∈ Q, pl x.W 0 ≤ 2 ∧ pl x.W 1 ≤ 10 ∧ pl x.W 2 ≤ 10 := fun x hx => by
    have h0 := (hst x hx).plLe (t := 0) (by omega)
    have h1 := (hst x hx).plLe (t := 1) (by omega)
    have h2 := (hst x hx).plLe (t := 2) (by omega)
    have l0 := C.len0
    rw [if_neg (by decide)] at l0
    obtain ⟨_, _, _, _, _, d1⟩ := C.b 1 (by omega) (by omega)
    obtain ⟨_, _, _, _, _, d2⟩ := C.b 2 (by omega) (by omega)
    have := d1.1 rfl
    have := d2.1 rfl
    omega
  have hn : (Q.map fun x => pl x.W 0 * 121 + pl x.W 1 * 11 + pl x.W 2).Nodup := by
    rw [List.Nodup, List.pairwise_map]
    refine hpw.imp_of_mem fun {x y} hx hy hne e => hne ?_
    refine ms_places (hst x hx) (hst y hy) (by omega) fun t ht => ?_
    have := hb x hx
    have := hb y hy
    have ht3 : t = 0 ∨ t = 1 ∨ t = 2 := by omega
    rcases ht3 with rfl | rfl | rfl <;> omega
  have := nodup_len 363 _ hn (fun c hc => by
    obtain ⟨x, hx, rfl⟩ := List.mem_map.1 hc
    have := hb x hx
    omega)
  simpa using this
/-- What a search answers of a wheel with a ring. -/
theorem wheel_search {n : Nat} {P : List (List Ins)} {q : Nat → Nat} (C : Whl n 0 P q) (s : ByteArray) (h0 : (ckP s).1 = 0) (hp : (beginW (thLoop s 0 0 [])).prog = prg P) {sc : List Nat} {V : Wd} (hV : goL (beginW (thLoop s 0 0 [])) sc = some V) (hr : ringW V = true) :
    ∃ (l : List Nat) (f : Int), (∀ w, Calls Tryd.prog 11 #[.string s, .int .i64 400] w fun e w' => e = .returned (.tuple #[.string (digS l), .int .i64 f, .int .i64 0]) ∧ Below w.heap.size w w') ∧
      ((f = 1 ∧ l.length ≤ sc.length ∧ ∀ w, Calls Tryd.prog 12 #[.string s, .string (digS l)] w fun e w' => e = .returned (.bool true) ∧ Below w.heap.size w w') ∨ (f = 3 ∧ 2 < n)) := by
  have I0 := begin_inv s h0
  have hSe := fun w => Search_any s 400 w
  rw [seaV_in s h0] at hSe
  have hSp := sea_spec s h0
  generalize seaR s 400 = r at *
  obtain ⟨l, f⟩ := r
  refine ⟨l, f, hSe, ?_⟩
  cases hSp with
  | found U e1 hgo hrg _ hmin =>
    simp only at e1 hgo hmin
    obtain ⟨hl60, hl5⟩ := goL_60 I0 hgo
    obtain ⟨_, hs5⟩ := goL_60 I0 hV
    refine .inl ⟨e1, sv_le_len (fun t ht => by have := hs5 t ht; omega) (hmin sc V hV hr), fun w => ?_⟩
    have := lawRing_any s h0 l (fun t ht => by have := hl5 t ht; omega) (by omega) U hgo w
    rwa [hrg] at this
  | none e1 e2 hno => rw [hno sc V hV] at hr; cases hr
  | short Q e1 e2 hok hpw hlen =>
    refine .inr ⟨e1, ?_⟩
    rcases Nat.lt_or_ge 2 n with h2 | h2
    · exact h2
    · have hn2 : n = 2 := by have := C.n2; omega
      subst hn2
      have := count2 C I0 hp hok hpw
      omega

def dtS (d : Nat) : ByteArray := bt (List.replicate d 46)
theorem dtS_size (d : Nat) : (dtS d).size = d := by rw [dtS, bt_size, List.length_replicate]
def DtOut (e : Ending) : Prop := ∃ d, d < 3 ∧ e = .returned (.string (dtS d))
set_option maxRecDepth 100000 in
set_option maxHeartbeats 1000000 in
theorem dots_any (a : Option Addr) (c : Nat) (raw : List Int) (n : Nat) (hn : n = raw.length) (hi : ∀ x ∈ raw, -9223372036854775808 ≤ x ∧ x ≤ 9223372036854775807) (i : Nat) (w : World) (hA : IntsAt w a raw) :
    Calls Tryd.prog 17 #[.slice a n c, .int .i64 (i : Int)] w fun e w' => DtOut e ∧ w' = w := by
  subst hn
  have i0 : (0 : Int) ≤ (i : Int) := by omega
  by_cases h : i < raw.length
  · obtain ⟨x, hx⟩ := get_some raw i h
    obtain ⟨g, o, e1, c1⟩ := hA i x hx
    subst e1
    obtain ⟨hx0, hx1⟩ := hi x (List.mem_of_getElem? hx)
    have hP : ∀ w, Calls Tryd.prog 6 #[.int .i64 x, .int .i64 3] w fun e w' => (∃ r : Nat, r < 3 ∧ e = .returned (.int .i64 (r : Int))) ∧ w' = w := fun w => pickN_any x hx0 hx1 3 (by decide) (by decide) w
    have il : ¬ (raw.length : Int) ≤ (i : Int) := by omega
    have il' : (i : Int) < (raw.length : Int) := by omega
    clear hx hx0 hx1 hi hA
    go_enter Tryd.func17, Tryd.ntmps17
    go_wp2_with (first | (go_at_call 6; refine (hP _).mono ?_; rintro e w1 ⟨⟨r, hr, rfl⟩, hw⟩; have hw2 := hw.symm; clear hw; subst hw2; have r0 : (0 : Int) ≤ (r : Int) := (by omega); have r2 : (r : Int) ≤ 2 := (by omega)))
    go_ret
    have h3 : r = 0 ∨ r = 1 ∨ r = 2 := by omega
    rcases h3 with rfl | rfl | rfl
    · exact ⟨⟨0, by decide, rfl⟩, rfl⟩
    · exact ⟨⟨1, by decide, rfl⟩, rfl⟩
    · exact ⟨⟨2, by decide, rfl⟩, rfl⟩
  · have il : (raw.length : Int) ≤ (i : Int) := by omega
    go_enter Tryd.func17, Tryd.ntmps17
    go_wp2
    go_ret
    exact ⟨⟨0, by decide, rfl⟩, rfl⟩
end Go.Proofs.YtdfndcbakcmgiabDoor
