import Derived.Test.YtdfndcbakcmgiabDoorB1
namespace Go.Proofs.YtdfndcbakcmgiabDoor
open Go.RowKit

/-- A slice of steps, as it is read. -/
def StepsIn (w : World) (B : Nat) (v : Value) (l : List Stp) : Prop :=
  ∃ g cap, v = .slice (some ⟨g, 0, none⟩) l.length cap ∧ B ≤ g ∧ ∀ j x, l[j]? = some x →
    w.cell? ⟨g, 3 * j, none⟩ = some (.int .i64 x.kind) ∧ w.cell? ⟨g, 3 * j + 1, none⟩ = some (.int .i64 x.which) ∧ w.cell? ⟨g, 3 * j + 2, none⟩ = some (.int .i64 x.count)
/-- A program's threads, as they are read. -/
def ProgIn (w : World) (B : Nat) (V : Value) (L : List (List Stp)) : Prop :=
  ∃ g cap, V = .slice (some ⟨g, 0, none⟩) L.length cap ∧ B ≤ g ∧ ∀ t l, L[t]? = some l → ∃ v, w.cell? ⟨g, t, none⟩ = some v ∧ StepsIn w B v l

theorem StepsIn.kept {w w' : World} {B : Nat} {v : Value} {l : List Stp} (h : StepsIn w B v l) (hb : ∀ k, B ≤ k → k < w.heap.size → w'.heap[k]? = w.heap[k]?) : StepsIn w' B v l := by
  obtain ⟨g, cap, hv, hB, hc⟩ := h
  refine ⟨g, cap, hv, hB, fun j x hx => ?_⟩
  obtain ⟨c0, c1, c2⟩ := hc j x hx
  have hlt := hb g hB (World.block_lt_of_cell? w _ c0)
  refine ⟨?_, ?_, ?_⟩
  · rw [World.cell?_of_block (w := w) (a := ⟨g, 3 * j, none⟩) hlt]; exact c0
  · rw [World.cell?_of_block (w := w) (a := ⟨g, 3 * j + 1, none⟩) hlt]; exact c1
  · rw [World.cell?_of_block (w := w) (a := ⟨g, 3 * j + 2, none⟩) hlt]; exact c2
theorem ProgIn.kept {w w' : World} {B : Nat} {V : Value} {L : List (List Stp)} (h : ProgIn w B V L) (hb : ∀ k, B ≤ k → k < w.heap.size → w'.heap[k]? = w.heap[k]?) : ProgIn w' B V L := by
  obtain ⟨g, cap, hv, hB, hc⟩ := h
  refine ⟨g, cap, hv, hB, fun t l hl => ?_⟩
  obtain ⟨v, h1, h2⟩ := hc t l hl
  exact ⟨v, by rw [World.cell?_of_block (w := w) (a := ⟨g, t, none⟩) (hb g hB (World.block_lt_of_cell? w _ h1))]; exact h1, h2.kept hb⟩
theorem ProgIn.below {w w' : World} {B : Nat} {V : Value} {L : List (List Stp)} (h : ProgIn w B V L) (hb : Below w.heap.size w w') : ProgIn w' B V L := h.kept fun k _ hk => hb.block k hk
theorem ProgIn.setCell {w : World} {B : Nat} {V : Value} {L : List (List Stp)} (h : ProgIn w B V L) {p : Addr} (hp : p.block < B) (u : Value) : ProgIn (w.setCell p u) B V L :=
  h.kept fun _ hk _ => Below.heap_setCell _ _ _ _ (by omega)
theorem ProgIn.alloc {w : World} {B : Nat} {V : Value} {L : List (List Stp)} (h : ProgIn w B V L) (o : Obj) : ProgIn (w.alloc o) B V L :=
  h.kept fun _ _ hk => Below.heap_alloc _ _ _ hk
theorem ProgIn.drew {w : World} {B : Nat} {V : Value} {L : List (List Stp)} (h : ProgIn w B V L) : ProgIn w.drew B V L := h.kept fun _ _ _ => rfl
theorem StepsIn.mono {w : World} {B B' : Nat} {v : Value} {l : List Stp} (h : StepsIn w B v l) (hB : B' ≤ B) : StepsIn w B' v l := by
  obtain ⟨g, cap, hv, h1, hc⟩ := h
  exact ⟨g, cap, hv, Nat.le_trans hB h1, hc⟩
theorem ProgIn.mono {w : World} {B B' : Nat} {V : Value} {L : List (List Stp)} (h : ProgIn w B V L) (hB : B' ≤ B) : ProgIn w B' V L := by
  obtain ⟨g, cap, hv, h1, hc⟩ := h
  exact ⟨g, cap, hv, Nat.le_trans hB h1, fun t l hl => let ⟨v, h2, h3⟩ := hc t l hl; ⟨v, h2, h3.mono hB⟩⟩

theorem flat_get : ∀ (l : List Stp) (j : Nat) (x : Stp), l[j]? = some x →
    (l.flatMap stepCells)[3 * j]? = some (.int .i64 x.kind) ∧ (l.flatMap stepCells)[3 * j + 1]? = some (.int .i64 x.which) ∧ (l.flatMap stepCells)[3 * j + 2]? = some (.int .i64 x.count)
  | [], _, _, h => by simp at h
  | a :: l, 0, x, h => by
    simp at h; subst h
    simp [stepCells]
  | a :: l, j + 1, x, h => by
    have := flat_get l j x (by simpa using h)
    have e : 3 * (j + 1) = 3 * j + 3 := by omega
    rw [e]
    simpa [stepCells] using this

theorem stepsIn_of_row {w : World} {B : Nat} {l : List Stp} {v : Value} (h : (rowT l v).at w B) : StepsIn w B v l := by
  obtain ⟨g, cap, hv, hB, _⟩ := h.form
  have hv' : v = .slice (some ⟨g, 0, none⟩) l.length cap := hv
  have ho : w.ownsRow B 86 3 v l.length (l.flatMap stepCells) := h.1
  rw [hv'] at ho
  refine ⟨g, cap, hv', hB, fun j x hx => ?_⟩
  have hj : j < l.length := (List.getElem?_eq_some_iff.1 hx).1
  obtain ⟨c0, c1, c2⟩ := flat_get l j x hx
  exact ⟨by rw [ho.cellAt _ (by omega)]; exact c0, by rw [ho.cellAt _ (by omega)]; exact c1, by rw [ho.cellAt _ (by omega)]; exact c2⟩

theorem rowsT_mem : ∀ (L : List (List Stp)) (vs : List Value) (t : Nat) (l : List Stp), vs.length = L.length → L[t]? = some l → ∃ v, vs[t]? = some v ∧ rowT l v ∈ rowsT L vs
  | [], _, _, _, _, h => by simp at h
  | _ :: _, [], _, _, h, _ => by simp at h
  | a :: L, b :: vs, 0, l, _, h => by
    simp at h; subst h
    exact ⟨b, rfl, List.mem_cons_self ..⟩
  | a :: L, b :: vs, t + 1, l, hl, h => by
    obtain ⟨v, h1, h2⟩ := rowsT_mem L vs t l (by simpa using hl) (by simpa using h)
    exact ⟨v, by simpa using h1, List.mem_cons_of_mem _ h2⟩

theorem progIn_of_fam {w : World} {B : Nat} {L : List (List Stp)} {V : Value} {vs : List Value} (hl : vs.length = L.length) (h : Fam w B (rowV L.length V vs :: rowsT L vs)) : ProgIn w B V L := by
  obtain ⟨g, cap, hv, hB, _⟩ := (h.1 _ (List.mem_cons_self ..)).form
  have hv' : V = .slice (some ⟨g, 0, none⟩) L.length cap := hv
  have ho : w.ownsRow B 122 1 V L.length vs := h.own
  rw [hv'] at ho
  refine ⟨g, cap, hv', hB, fun t l hx => ?_⟩
  have ht : t < L.length := (List.getElem?_eq_some_iff.1 hx).1
  obtain ⟨v, h1, h2⟩ := rowsT_mem L vs t l hl hx
  exact ⟨v, by rw [ho.cellAt t (by omega)]; exact h1, stepsIn_of_row (h.1 _ (List.mem_cons_of_mem _ h2))⟩

/-- The first thread that is one too many, or too long. -/
def fe (L : List (List Stp)) (t : Nat) : Int :=
  if h : t < L.length then (if 5 ≤ t ∨ 12 < L[t].length then (t : Int) else fe L (t + 1)) else -1
termination_by L.length - t

set_option maxHeartbeats 1000000 in
theorem firstExtra_any (V : Value) (L : List (List Stp)) (w : World) (B : Nat) (hp : ProgIn w B V L) (_hl : L.length ≤ 1000000) :
    Calls Tryd.prog 33 #[V] w fun e w' => e = .returned (.int .i64 (fe L 0)) ∧ w' = w := by
  obtain ⟨g, cap, rfl, _, hc⟩ := hp
  go_enter Tryd.func33, Tryd.ntmps33
  go_wp2
  go_loop [3] (fun i => ∃ t : Nat, t ≤ L.length ∧ i = .int .i64 t ∧ Hid (fe L 0 = fe L t)) (fun i => L.length - (intOf i).toNat)
  case atStart => exact ⟨0, Nat.zero_le _, rfl, rfl⟩
  case round =>
    obtain ⟨t, ht, rfl, hh⟩ := hrel
    by_cases hlt : t < L.length
    · obtain ⟨v, hcell, g1, c1, rfl, _, _⟩ := hc t L[t] (by simp [hlt])
      have hfe : fe L t = if 5 ≤ t ∨ 12 < L[t].length then (t : Int) else fe L (t + 1) := by rw [fe, dif_pos hlt]
      have HF : Hid (fe L 0 = if 5 ≤ t ∨ 12 < L[t].length then (t : Int) else fe L (t + 1)) := by rw [Hid, hh.out, hfe]
      clear hfe hh hc
      generalize L[t].length = n at *
      by_cases h5 : 5 ≤ t
      · go_wp2
        go_ret
        exact ⟨ret_int (by rw [HF.out, if_pos (.inl h5)]), rfl⟩
      · by_cases h12 : 12 < n
        · go_wp2
          go_ret
          exact ⟨ret_int (by rw [HF.out, if_pos (.inr h12)]), rfl⟩
        · go_wp2
          go_round
          case rel => exact ⟨t + 1, by omega, by go_num, by rw [Hid, HF.out, if_neg (by omega)]⟩
          case measure => simp [intOf]; omega
    · go_wp2
      go_ret
      exact ⟨ret_int (by rw [hh.out, fe, dif_neg hlt]), rfl⟩

/-- The place of the first digit that names no thread. -/
def fs (s : ByteArray) (n : Int) (k : Nat) : Int :=
  if k < s.size then
    (if byteI s k ≠ 62 ∧ byteI s k ≠ 60 then fs s n (k + 1) else if n ≤ byteI s (k + 1) - 48 then ((k + 1 : Nat) : Int) else fs s n (k + 1))
  else -1
termination_by s.size - k

set_option maxHeartbeats 1000000 in
theorem firstStray_any (s : ByteArray) (n : Int) (w : World) (hs : s.size ≤ 160) :
    Calls Tryd.prog 34 #[.string s, .int .i64 n] w fun e w' => e = .returned (.int .i64 (fs s n 0)) ∧ w' = w := by
  have hm : s.size ≤ maxLen := by unfold maxLen; omega
  go_enter Tryd.func34, Tryd.ntmps34
  go_wp2
  go_loop [5] (fun i => ∃ k : Nat, k ≤ s.size ∧ i = .int .i64 k ∧ Hid (fs s n 0 = fs s n k)) (fun i => s.size - (intOf i).toNat)
  case atStart => exact ⟨0, Nat.zero_le _, rfl, rfl⟩
  case round =>
    obtain ⟨k, hk, rfl, hh⟩ := hrel
    by_cases hlt : k < s.size
    · have hfs : Hid (fs s n 0 = if byteI s k ≠ 62 ∧ byteI s k ≠ 60 then fs s n (k + 1) else if n ≤ byteI s (k + 1) - 48 then ((k + 1 : Nat) : Int) else fs s n (k + 1)) := by rw [Hid, hh.out, fs, if_pos hlt]
      have hlo := byteI_lo s (k + 1)
      have hhi := byteI_hi s (k + 1)
      have hbk := byteI_in hlt
      clear hh
      by_cases h1 : byteI s k = 62
      · by_cases h3 : n ≤ byteI s (k + 1) - 48
        · go_wp2_with (go_at_call 50; refine (byteAt_any s _ (k + 1) (by omega) _ hm).mono ?_; rintro e w2 ⟨rfl, rfl⟩)
          go_ret
          exact ⟨ret_int (by rw [hfs.out, if_neg (by omega), if_pos h3]; omega), rfl⟩
        · go_wp2_with (go_at_call 50; refine (byteAt_any s _ (k + 1) (by omega) _ hm).mono ?_; rintro e w2 ⟨rfl, rfl⟩)
          go_round
          case rel => exact ⟨k + 1, by omega, by go_num, by rw [Hid, hfs.out, if_neg (by omega), if_neg (by omega)]⟩
          case measure => simp [intOf]; omega
      · by_cases h2 : byteI s k = 60
        · by_cases h3 : n ≤ byteI s (k + 1) - 48
          · go_wp2_with (go_at_call 50; refine (byteAt_any s _ (k + 1) (by omega) _ hm).mono ?_; rintro e w2 ⟨rfl, rfl⟩)
            go_ret
            exact ⟨ret_int (by rw [hfs.out, if_neg (by omega), if_pos h3]; omega), rfl⟩
          · go_wp2_with (go_at_call 50; refine (byteAt_any s _ (k + 1) (by omega) _ hm).mono ?_; rintro e w2 ⟨rfl, rfl⟩)
            go_round
            case rel => exact ⟨k + 1, by omega, by go_num, by rw [Hid, hfs.out, if_neg (by omega), if_neg (by omega)]⟩
            case measure => simp [intOf]; omega
        · have b1 : (byteI s k != 62) = true := by simpa using h1
          have b2 : (byteI s k != 60) = true := by simpa using h2
          go_wp2
          go_round
          case rel => exact ⟨k + 1, by omega, by go_num, by rw [Hid, hfs.out, if_pos ⟨h1, h2⟩]⟩
          case measure => simp [intOf]; omega
    · go_wp2
      go_ret
      exact ⟨ret_int (by rw [hh.out, fs, if_neg hlt]), rfl⟩
end Go.Proofs.YtdfndcbakcmgiabDoor
namespace Go.Proofs.YtdfndcbakcmgiabDoor
open Go.RowKit

/-- What Read answers: the threads, the error, its place. -/
def readP (s : ByteArray) : List (List Stp) × Int × Int :=
  if 160 < s.size then ([], 1, 0)
  else match rtLoop s 0 [] [] with
    | .inr p => ([], 2, p)
    | .inl L =>
      if fe L 0 ≠ -1 then ([], 3, fe L 0)
      else if fs s L.length 0 ≠ -1 then ([], 4, fs s L.length 0)
      else (L, 0, 0)

theorem rtLoop_len (s : ByteArray) : ∀ (n k : Nat) (done : List (List Stp)) (cur : List Stp) (L : List (List Stp)), s.size - k = n → rtLoop s k done cur = .inl L → L.length ≤ done.length + 1 + (s.size - k) := by
  intro n
  induction n using Nat.strongRecOn with
  | ind n ih =>
    intro k done cur L hn h
    rw [rtLoop] at h
    split at h
    · split at h
      · have := ih (s.size - (k + 1)) (by omega) (k + 1) _ _ L rfl h
        simp at this; omega
      · split at h
        · rename_i hok
          have hx := readStep_next s k hok
          have := ih (s.size - (readStep s k).2.1) (by omega) _ _ _ L rfl h
          omega
        · cases h
    · simp at h; subst h; simp

theorem readThreads_no (s : ByteArray) (w : World) (hs : s.size ≤ 160) (p : Nat) (h : rtLoop s 0 [] [] = .inr p) :
    Calls Tryd.prog 32 #[.string s] w fun e w' => e = .returned (.tuple #[.slice none 0 0, .int .i64 p]) ∧ Below w.heap.size w w' := by
  refine (readThreads_any s w hs).mono ?_
  rintro e w1 ⟨hb, ⟨L, V, vs, h1, _⟩ | ⟨p', h1, h2⟩⟩
  · rw [h] at h1; cases h1
  · rw [h] at h1; cases h1; exact ⟨h2, hb⟩
theorem readThreads_yes (s : ByteArray) (w : World) (hs : s.size ≤ 160) (L : List (List Stp)) (h : rtLoop s 0 [] [] = .inl L) :
    Calls Tryd.prog 32 #[.string s] w fun e w' => ∃ g cap, e = .returned (.tuple #[.slice (some ⟨g, 0, none⟩) L.length cap, .int .i64 (-1)]) ∧ Below w.heap.size w w' ∧ ProgIn w' w.heap.size (.slice (some ⟨g, 0, none⟩) L.length cap) L := by
  refine (readThreads_any s w hs).mono ?_
  rintro e w1 ⟨hb, ⟨L', V, vs, h1, h2, h3, h4⟩ | ⟨p', h1, h2⟩⟩
  · rw [h] at h1; cases h1
    have hp := progIn_of_fam h3 h4
    obtain ⟨g, cap, hV, _⟩ := id hp
    rw [hV] at hp h2
    exact ⟨g, cap, h2, hb, hp⟩
  · rw [h] at h1; cases h1

/-- The one cell of a struct that holds a slice, in a block that was laid ahead of a call. -/
theorem below_one {w w1 : World} {v : Value} {T : TypeId} (hb : Below (w.alloc (.cells #[v] T)).heap.size (w.alloc (.cells #[v] T)) w1) :
    w1.cell? ⟨w.heap.size, 0, none⟩ = some v ∧ (∀ j, w1.frozen? ⟨w.heap.size, j, none⟩ = false) ∧ w.heap.size < w1.heap.size ∧ Below w.heap.size w w1 := by
  obtain ⟨hc, hf, hz, hB⟩ := below_new hb
  exact ⟨hc 0 _ rfl, hf, hz, hB⟩

set_option maxHeartbeats 2000000 in
theorem Read_any (s : ByteArray) (w : World) :
    Calls Tryd.prog 22 #[.string s] w fun e w' => ∃ a n c, e = .returned (.tuple #[.agg #[.slice a n c], .int .i64 (readP s).2.1, .int .i64 (readP s).2.2]) ∧ Below w.heap.size w w' ∧ ((readP s).2.1 = 0 → ProgIn w' w.heap.size (.slice a n c) (readP s).1) := by
  by_cases h160 : 160 < s.size
  · have hr : readP s = ([], 1, 0) := by rw [readP, if_pos h160]
    rw [hr]; clear hr
    go_enter Tryd.func22, Tryd.ntmps22
    go_wp2
    exact bodyPost_ret (v := .tuple #[.agg #[.slice none 0 0], .int .i64 1, .int .i64 0]) (by simp [results, Tryd.results22, go_sem]) rfl ⟨_, _, _, rfl, (Below.refl _ _).alloc (Nat.le_refl _) _, by simp⟩
  · have hs : s.size ≤ 160 := by omega
    cases hrt : rtLoop s 0 [] [] with
    | inr p =>
      have hr : readP s = ([], 2, (p : Int)) := by rw [readP, if_neg h160, hrt]
      rw [hr]; clear hr
      have hcall := fun w => readThreads_no s w hs p hrt
      have hne : ((p : Int) != -1) = true := by simp
      clear hrt
      go_enter Tryd.func22, Tryd.ntmps22
      go_wp2_with (go_at_call 32; refine (hcall _).mono ?_; rintro e w1 ⟨rfl, hb⟩; obtain ⟨c0, hf, hz, hB⟩ := below_one hb; clear hb)
      exact bodyPost_ret (v := .tuple #[.agg #[.slice none 0 0], .int .i64 2, .int .i64 p]) (by simp [results, Tryd.results22, go_sem, c0]) rfl ⟨_, _, _, rfl, hB.setCell (Nat.le_refl _) _, by simp⟩
    | inl L =>
      have hcall := fun w => readThreads_yes s w hs L hrt
      have hL := rtLoop_len s _ 0 [] [] L rfl hrt
      simp only [List.length_nil] at hL
      by_cases hfe : fe L 0 = -1
      · by_cases hfs : fs s L.length 0 = -1
        · have hr : readP s = (L, 0, 0) := by rw [readP, if_neg h160, hrt]; simp [hfe, hfs]
          rw [hr]; clear hr hrt
          go_enter Tryd.func22, Tryd.ntmps22
          go_wp2_with (first
            | (go_at_call 32; refine (hcall _).mono ?_; rintro e w1 ⟨g, cap, rfl, hb, hp⟩; obtain ⟨c0, hf, hz, hB⟩ := below_one hb; clear hb hcall)
            | (go_at_call 33; refine (firstExtra_any _ L _ _ hp (by omega)).mono ?_; rintro e w2 ⟨he, hw⟩; subst hw; rw [hfe] at he; subst he)
            | (go_at_call 34; refine (firstStray_any s _ _ hs).mono ?_; rintro e w3 ⟨he, hw⟩; subst hw; rw [hfs] at he; subst he))
          exact bodyPost_ret (v := .tuple #[.agg #[.slice (some ⟨g, 0, none⟩) L.length cap], .int .i64 0, .int .i64 0]) (by simp [results, Tryd.results22, go_sem, c0]) rfl ⟨_, _, _, rfl, hB.setCell (Nat.le_refl _) _, fun _ => (hp.setCell (by simp) _).mono (by simp)⟩
        · have hr : readP s = ([], 4, fs s L.length 0) := by rw [readP, if_neg h160, hrt]; simp [hfe, hfs]
          rw [hr]; clear hr hrt
          have hne : (fs s L.length 0 != -1) = true := by simpa using hfs
          go_enter Tryd.func22, Tryd.ntmps22
          go_wp2_with (first
            | (go_at_call 32; refine (hcall _).mono ?_; rintro e w1 ⟨g, cap, rfl, hb, hp⟩; obtain ⟨c0, hf, hz, hB⟩ := below_one hb; clear hb hcall)
            | (go_at_call 33; refine (firstExtra_any _ L _ _ hp (by omega)).mono ?_; rintro e w2 ⟨rfl, hw⟩; subst hw)
            | (go_at_call 34; refine (firstStray_any s _ _ hs).mono ?_; rintro e w3 ⟨rfl, hw⟩; subst hw))
          exact bodyPost_ret (v := .tuple #[.agg #[.slice none 0 0], .int .i64 4, .int .i64 (fs s L.length 0)]) (by simp [results, Tryd.results22, go_sem, c0]) rfl ⟨_, _, _, rfl, hB.setCell (Nat.le_refl _) _, by simp⟩
      · have hr : readP s = ([], 3, fe L 0) := by rw [readP, if_neg h160, hrt]; simp [hfe]
        rw [hr]; clear hr hrt
        have hne : (fe L 0 != -1) = true := by simpa using hfe
        go_enter Tryd.func22, Tryd.ntmps22
        go_wp2_with (first
            | (go_at_call 32; refine (hcall _).mono ?_; rintro e w1 ⟨g, cap, rfl, hb, hp⟩; obtain ⟨c0, hf, hz, hB⟩ := below_one hb; clear hb hcall)
            | (go_at_call 33; refine (firstExtra_any _ L _ _ hp (by omega)).mono ?_; rintro e w2 ⟨rfl, hw⟩; subst hw)
            | (go_at_call 34; refine (firstStray_any s _ _ hs).mono ?_; rintro e w3 ⟨rfl, hw⟩; subst hw))
        exact bodyPost_ret (v := .tuple #[.agg #[.slice none 0 0], .int .i64 3, .int .i64 (fe L 0)]) (by simp [results, Tryd.results22, go_sem, c0]) rfl ⟨_, _, _, rfl, hB.setCell (Nat.le_refl _) _, by simp⟩

set_option maxHeartbeats 1000000 in
theorem Check_any (s : ByteArray) (w : World) :
    Calls Tryd.prog 25 #[.string s] w fun e w' => e = .returned (.tuple #[.int .i64 (readP s).2.1, .int .i64 (readP s).2.2]) ∧ Below w.heap.size w w' := by
  go_enter Tryd.func25, Tryd.ntmps25
  go_wp2_with (go_at_call 22; refine (Read_any s _).mono ?_; rintro e w1 ⟨a, n, c, rfl, hb, _⟩)
  go_ret2
  exact ⟨rfl, hb.alloc hb.size _⟩
end Go.Proofs.YtdfndcbakcmgiabDoor
