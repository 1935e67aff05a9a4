import Derived.Test.YtfdbnilopfnifaaD9
import Derived.Test.YtfdbnilopfnifaaC3
namespace Go.Proofs.Ytfdbnilopfnifaa
open Go.RowKit
attribute [local go_sem ↓] Go.wp_at_zero Go.wp_at_succ

/-- Where a schedule of a program leads, or the error: 0 with a world, else the error. -/
theorem world_err (s sch : ByteArray) (w : World) (h : (ckP s).1 ≠ 0) :
    Calls Try.prog 49 #[.string s, .string sch] w fun e w' => e = .returned (.tuple #[.pointer none, .int .i64 (ckP s).1]) ∧ Below w.heap.size w w' := by
  have hc := fun w => refCheck_any s w
  generalize (ckP s).1 = a at *
  generalize (ckP s).2 = b at *
  have ha : (a != 0) = true := by simpa using h
  go_enter Try.func49, Try.ntmps49
  go_wp2_with (go_at_call 15; refine (hc _).mono ?_; rintro e w1 ⟨rfl, hb⟩)
  go_ret2
  exact ⟨rfl, hb⟩

set_option maxHeartbeats 1000000 in
theorem world_ok (s sch : ByteArray) (w : World) (h : (ckP s).1 = 0) (hs : s.size ≤ 160) (hsch : sch.size ≤ maxLen) (I0 : (beginW (thLoop s 0 0 [])).Inv) (W : Wd) (hW : toLoop sch (beginW (thLoop s 0 0 [])) 0 = some W) :
    Calls Try.prog 49 #[.string s, .string sch] w fun e w' => ∃ p, e = .returned (.tuple #[.pointer (some ⟨p, 0, none⟩), .int .i64 0]) ∧ Below w.heap.size w w' ∧ RepW w' w.heap.size p W ∧ W.Inv := by
  have hc := fun w => refCheck_any s w
  have hto : ∀ w, Calls Try.prog 76 #[.string s, .string sch] w fun e w' => ∃ p, e = .returned (.tuple #[.pointer (some ⟨p, 0, none⟩), .bool true]) ∧ Below w.heap.size w w' ∧ RepW w' w.heap.size p W ∧ W.Inv := by
    intro w
    refine (To_any s sch w hs hsch I0).mono ?_
    rintro e w1 ⟨hb, ⟨W', p, h1, h2, h3, h4⟩ | ⟨h1, _⟩⟩
    · rw [hW] at h1; cases h1
      exact ⟨p, h2, hb, h3, h4⟩
    · rw [hW] at h1; cases h1
  rw [h] at hc
  generalize (ckP s).2 = b at *
  go_enter Try.func49, Try.ntmps49
  go_wp2_with (first
    | (go_at_call 15; refine (hc _).mono ?_; rintro e w1 ⟨rfl, hb⟩)
    | (go_at_call 76; refine (hto _).mono ?_; rintro e w2 ⟨p, rfl, hb2, hR, I⟩))
  go_ret2
  refine ⟨p, rfl, hb.trans (hb2.mono hb.size), ?_, I⟩
  obtain ⟨v, inner, hl, hf⟩ := hR
  refine ⟨v, inner, hl, ⟨fun r hr => ?_, hf.2⟩⟩
  obtain ⟨h1, h2⟩ := hf.1 r hr
  refine ⟨h1, ?_⟩
  rcases h2 with h2 | ⟨g, cap, cur, a, b, c⟩
  · exact .inl h2
  · exact .inr ⟨g, cap, cur, a, Nat.le_trans hb.size b, c⟩

set_option maxHeartbeats 1000000 in
theorem world_none (s sch : ByteArray) (w : World) (h : (ckP s).1 = 0) (hs : s.size ≤ 160) (hsch : sch.size ≤ maxLen) (I0 : (beginW (thLoop s 0 0 [])).Inv) (hW : toLoop sch (beginW (thLoop s 0 0 [])) 0 = none) :
    Calls Try.prog 49 #[.string s, .string sch] w fun e w' => e = .returned (.tuple #[.pointer none, .int .i64 5]) ∧ Below w.heap.size w w' := by
  have hc := fun w => refCheck_any s w
  have hto : ∀ w, Calls Try.prog 76 #[.string s, .string sch] w fun e w' => e = .returned (.tuple #[.pointer none, .bool false]) ∧ Below w.heap.size w w' := by
    intro w
    refine (To_any s sch w hs hsch I0).mono ?_
    rintro e w1 ⟨hb, ⟨W', p, h1, h2, h3, h4⟩ | ⟨h1, h2⟩⟩
    · rw [hW] at h1; cases h1
    · exact ⟨h2, hb⟩
  rw [h] at hc
  generalize (ckP s).2 = b at *
  go_enter Try.func49, Try.ntmps49
  go_wp2_with (first
    | (go_at_call 15; refine (hc _).mono ?_; rintro e w1 ⟨rfl, hb⟩)
    | (go_at_call 76; refine (hto _).mono ?_; rintro e w2 ⟨rfl, hb2⟩))
  go_ret2
  exact ⟨rfl, hb.trans (hb2.mono hb.size)⟩

/-! Digits as texts. -/
def digS (l : List Nat) : ByteArray := ⟨(l.map fun t => UInt8.ofNat (48 + t)).toArray⟩
theorem digS_size (l : List Nat) : (digS l).size = l.length := by simp [digS, ByteArray.size]
theorem digS_nil : digS [] = ⟨#[]⟩ := rfl
theorem digS_snoc (l : List Nat) (t : Nat) : digS l ++ nameS t = digS (l ++ [t]) := by
  apply ByteArray.ext
  simp [digS, nameS]
theorem digS_empty (l : List Nat) : (digS l).toList.isEmpty = l.isEmpty := by
  rw [ByteArray.toList_eq]
  cases l <;> simp [digS]
theorem digS_get (l : List Nat) (j : Nat) (h : j < (digS l).size) (hl : ∀ t ∈ l, t ≤ 100) : ((digS l)[j].toNat : Int) = 48 + (l[j]'(by rw [← digS_size]; exact h) : Nat) := by
  have hj : j < l.length := by rw [← digS_size]; exact h
  have e : (digS l)[j] = UInt8.ofNat (48 + l[j]) := by
    show (l.map fun t => UInt8.ofNat (48 + t)).toArray[j]'(by simpa using hj) = _
    simp
  rw [e, UInt8.toNat_ofNat']
  have := hl l[j] (by simp)
  omega

/-- The threads that may move, and whether some other waits, from thread t on. -/
def mayLoop (W : Wd) (t : Nat) (l : List Nat) (alive : Bool) : List Nat × Bool :=
  if t < W.prog.length then mayLoop W (t + 1) (if stateOf W t = 1 ∨ stateOf W t = 5 then l ++ [t] else l) (alive || decide (stateOf W t = 2) || decide (stateOf W t = 3)) else (l, alive)
termination_by W.prog.length - t

def resumeL (picks : ByteArray) : Nat → Wd → List Nat → List Nat × Int
  | 0, _, out => (out, 0)
  | fuel + 1, W, out =>
    if (mayLoop W 0 [] false).1 = [] then (out, if (mayLoop W 0 [] false).2 = true then 2 else 1)
    else if stateOf W ((mayLoop W 0 [] false).1.getD ((byteI picks out.length).toNat % (mayLoop W 0 [] false).1.length) 0) = 5 then (out, 3)
    else resumeL picks fuel (moveT W ((mayLoop W 0 [] false).1.getD ((byteI picks out.length).toNat % (mayLoop W 0 [] false).1.length) 0)) (out ++ [(mayLoop W 0 [] false).1.getD ((byteI picks out.length).toNat % (mayLoop W 0 [] false).1.length) 0])

theorem mayLoop_mem (W : Wd) : ∀ (n t : Nat) (l : List Nat) (a : Bool), W.prog.length - t = n → (∀ x ∈ l, x < W.prog.length ∧ (stateOf W x = 1 ∨ stateOf W x = 5)) → ∀ x ∈ (mayLoop W t l a).1, x < W.prog.length ∧ (stateOf W x = 1 ∨ stateOf W x = 5) := by
  intro n
  induction n with
  | zero => intro t l a hn hl; rw [mayLoop, if_neg (by omega)]; exact hl
  | succ n ih =>
    intro t l a hn hl
    rw [mayLoop, if_pos (by omega)]
    refine ih (t + 1) _ _ (by omega) ?_
    split
    · rename_i hc
      intro x hx
      rcases List.mem_append.1 hx with hx | hx
      · exact hl x hx
      · simp at hx; subst hx; exact ⟨by omega, hc⟩
    · exact hl

def strLen : Value → Nat | .string s => s.size | _ => 0
theorem moveT_log {W : Wd} (t : Nat) : (moveT W t).log.length = W.log.length + 1 := by
  unfold moveT moveW stepped
  repeat' split
  all_goals simp
end Go.Proofs.Ytfdbnilopfnifaa
namespace Go.Proofs.Ytfdbnilopfnifaa
open Go.RowKit

/-! Plain facts: the two readings of a text agree. -/

theorem byteI_extract (s : ByteArray) (a b i : Nat) (hb : b ≤ s.size) : byteI (s.extract a b) i = if a + i < b then byteI s (a + i) else 0 := by
  unfold byteI
  by_cases h : a + i < b
  · have h1 : i < (s.extract a b).size := by rw [ByteArray.size_extract]; omega
    have h2 : a + i < s.size := by omega
    rw [dif_pos h1, if_pos h, dif_pos h2, ByteArray.getElem_extract]
  · have h1 : ¬ i < (s.extract a b).size := by rw [ByteArray.size_extract]; omega
    rw [dif_neg h1, if_neg h]

theorem extract_extract (s : ByteArray) (a b i j : Nat) (hj : a + j ≤ b) : (s.extract a b).extract i j = s.extract (a + i) (a + j) := by
  apply ByteArray.ext
  simp only [ByteArray.data_extract, Array.extract_extract]
  congr 1
  omega

/-- The step that an instruction's text is. -/
def stpOf (d : ByteArray) : Stp :=
  if byteI d 0 = 46 then ⟨0, 0, 0⟩
  else if 97 ≤ byteI d 0 ∧ byteI d 0 ≤ 102 then ⟨1, byteI d 0 - 97, 0⟩
  else if 65 ≤ byteI d 0 ∧ byteI d 0 ≤ 70 then ⟨2, byteI d 0 - 65, 0⟩
  else if byteI d 0 = 33 then ⟨3, byteI d 1 - 117, 0⟩
  else if byteI d 0 = 126 then ⟨4, byteI d 1 - 117, 0⟩
  else if byteI d 0 = 63 then ⟨5, byteI d 1 - 117, byteI d 2 - 48⟩
  else if byteI d 0 = 62 then ⟨6, byteI d 1 - 48, 0⟩
  else ⟨7, byteI d 1 - 48, 0⟩

theorem byteI_pos {s : ByteArray} {k : Nat} (h : byteI s k ≠ 0) : k < s.size := by
  unfold byteI at h
  split at h
  · assumption
  · exact absurd rfl h

/-- What is known of a step that could be read. -/
structure Good (s : ByteArray) (k : Nat) (x : Stp) (n : Nat) : Prop where
  nxt : n = k + wid (byteI s k)
  le : n ≤ s.size
  stp : x = stpOf (s.extract k n)
  nosemi : ∀ j, k ≤ j → j < n → byteI s j ≠ 59
  bad : badLoop s 0 k = badLoop s 0 n

theorem badLoop_step (s : ByteArray) (may : Int) (k : Nat) (hk : k < s.size) (m : Int) (h : nx may (byteI s k) = m) (hm : 0 ≤ m) : badLoop s may k = badLoop s m (k + 1) := by
  rw [badLoop, if_pos hk, h, if_neg (by omega)]
theorem badLoop_stop (s : ByteArray) (may : Int) (k : Nat) (hm : may ≠ 0) (hle : k ≤ s.size) (h : nx may (byteI s k) < 0) : badLoop s may k = k := by
  by_cases hk : k < s.size
  · rw [badLoop, if_pos hk, if_pos h]
  · rw [badLoop, if_neg hk, if_pos hm]; omega
theorem badLoop_stop0 (s : ByteArray) (k : Nat) (hk : k < s.size) (h : nx 0 (byteI s k) < 0) : badLoop s 0 k = k := by
  rw [badLoop, if_pos hk, if_pos h]

theorem good_one (s : ByteArray) (k : Nat) (x : Stp) (hk : k < s.size) (hw : wid (byteI s k) = 1) (h59 : byteI s k ≠ 59) (hx : x = stpOf (s.extract k (k + 1))) (hn : nx 0 (byteI s k) = 0) : Good s k x (k + 1) where
  nxt := by rw [hw]
  le := by omega
  stp := hx
  nosemi := fun j h1 h2 => by have : j = k := by omega
                              rw [this]; exact h59
  bad := badLoop_step s 0 k hk 0 hn (by omega)
theorem good_two (s : ByteArray) (k : Nat) (x : Stp) (m : Int) (hk : k < s.size) (hk1 : k + 1 < s.size) (hw : wid (byteI s k) = 2) (h59 : byteI s k ≠ 59) (h59' : byteI s (k + 1) ≠ 59) (hx : x = stpOf (s.extract k (k + 2)))
    (hn : nx 0 (byteI s k) = m) (hm : 0 ≤ m) (hn1 : nx m (byteI s (k + 1)) = 0) : Good s k x (k + 1 + 1) where
  nxt := by rw [hw]
  le := by omega
  stp := hx
  nosemi := fun j h1 h2 => by
    have : j = k ∨ j = k + 1 := by omega
    rcases this with h | h <;> rw [h] <;> assumption
  bad := by rw [badLoop_step s 0 k hk m hn hm, badLoop_step s m (k + 1) hk1 0 hn1 (by omega)]

theorem readNamed_good {s : ByteArray} {k : Nat} {kind f l : Int} (h : (readNamed s k kind f l).2.2 = true) : readNamed s k kind f l = (⟨kind, byteI s k - f, 0⟩, k + 1, true) ∧ f ≤ byteI s k ∧ byteI s k ≤ l := by
  unfold readNamed at h ⊢
  split at h
  · simp at h
  · rename_i h1; rw [if_neg h1]; exact ⟨rfl, by omega, by omega⟩
theorem readNamed_bad {s : ByteArray} {k : Nat} {kind f l : Int} (h : (readNamed s k kind f l).2.2 = false) : (readNamed s k kind f l).2.1 = k ∧ (byteI s k < f ∨ l < byteI s k) := by
  unfold readNamed at h ⊢
  split at h
  · rename_i h1; rw [if_pos h1]; exact ⟨rfl, h1⟩
  · simp at h

theorem wid_two {c : Int} (h : c = 33 ∨ c = 126 ∨ c = 60 ∨ c = 62) : wid c = 2 := by rw [wid, if_pos h]
theorem stpOf_extract (s : ByteArray) (k n : Nat) (hn : n ≤ s.size) (i : Nat) (h : k + i < n) : byteI (s.extract k n) i = byteI s (k + i) := by
  rw [byteI_extract s k n i hn, if_pos h]

theorem stpOf_extract0 (s : ByteArray) (k n : Nat) (hn : n ≤ s.size) (h : k < n) : byteI (s.extract k n) 0 = byteI s k := stpOf_extract s k n hn 0 h

theorem readStep_good (s : ByteArray) (k : Nat) (hk : k < s.size) (h59 : byteI s k ≠ 59) (h : (readStep s k).2.2 = true) : Good s k (readStep s k).1 (readStep s k).2.1 := by
  unfold readStep at h ⊢
  split at h
  · rename_i c
    rw [if_pos c]
    refine good_one s k _ hk (by rw [c]; rfl) h59 ?_ (by rw [c]; rfl)
    rw [stpOf, stpOf_extract0 s k (k + 1) (by omega) (by omega), if_pos c]
  rename_i c1
  rw [if_neg c1]
  split at h
  · rename_i c
    rw [if_pos c]
    rw [(readNamed_good h).1]
    refine good_one s k _ hk ?_ h59 ?_ ?_
    · rw [wid, if_neg (by omega), if_neg (by omega)]
    · rw [stpOf, stpOf_extract0 s k (k + 1) (by omega) (by omega), if_neg c1, if_pos c]
    · unfold nx; simp only [show ¬ ((0 : Int) = 1) by omega, show ¬ ((0 : Int) = 2) by omega, show ¬ ((0 : Int) = 3) by omega, show ¬ ((0 : Int) = 4) by omega, if_false]
      rw [if_neg (by omega), if_neg (by omega), if_neg (by omega), if_pos (by omega)]
  rename_i c2
  rw [if_neg c2]
  split at h
  · rename_i c
    rw [if_pos c]
    rw [(readNamed_good h).1]
    refine good_one s k _ hk ?_ h59 ?_ ?_
    · rw [wid, if_neg (by omega), if_neg (by omega)]
    · rw [stpOf, stpOf_extract0 s k (k + 1) (by omega) (by omega), if_neg c1, if_neg c2, if_pos c]
    · unfold nx; simp only [show ¬ ((0 : Int) = 1) by omega, show ¬ ((0 : Int) = 2) by omega, show ¬ ((0 : Int) = 3) by omega, show ¬ ((0 : Int) = 4) by omega, if_false]
      rw [if_neg (by omega), if_neg (by omega), if_neg (by omega), if_pos (by omega)]
  rename_i c3
  rw [if_neg c3]
  split at h
  · rename_i c
    rw [if_pos c]
    obtain ⟨he, l1, l2⟩ := readNamed_good h
    rw [he]
    have hk1 : k + 1 < s.size := byteI_pos (by omega)
    refine good_two s k _ 1 hk hk1 (wid_two (by omega)) h59 (by omega) ?_ (by rw [c]; rfl) (by omega) ?_
    · rw [stpOf, stpOf_extract0 s k (k + 2) (by omega) (by omega), stpOf_extract s k (k + 2) (by omega) 1 (by omega), if_neg c1, if_neg c2, if_neg c3, if_pos c]
    · rw [nx, if_pos rfl, if_pos ⟨l1, l2⟩]
  rename_i c4
  rw [if_neg c4]
  split at h
  · rename_i c
    rw [if_pos c]
    obtain ⟨he, l1, l2⟩ := readNamed_good h
    rw [he]
    have hk1 : k + 1 < s.size := byteI_pos (by omega)
    refine good_two s k _ 1 hk hk1 (wid_two (by omega)) h59 (by omega) ?_ (by rw [c]; rfl) (by omega) ?_
    · rw [stpOf, stpOf_extract0 s k (k + 2) (by omega) (by omega), stpOf_extract s k (k + 2) (by omega) 1 (by omega), if_neg c1, if_neg c2, if_neg c3, if_neg c4, if_pos c]
    · rw [nx, if_pos rfl, if_pos ⟨l1, l2⟩]
  rename_i c5
  rw [if_neg c5]
  split at h
  · rename_i c
    rw [if_pos c]
    unfold readSkip at h ⊢
    split at h
    · simp at h
    rename_i d1
    rw [if_neg d1]
    split at h
    · simp at h
    rename_i d2
    rw [if_neg d2]
    have hk1 : k + 1 < s.size := byteI_pos (by omega)
    have hk2 : k + 1 + 1 < s.size := byteI_pos (by omega)
    refine ⟨by rw [c]; rfl, by show k + 1 + 1 + 1 ≤ _; omega, ?_, ?_, ?_⟩
    · show _ = stpOf (s.extract k (k + 3))
      rw [stpOf, stpOf_extract0 s k (k + 3) (by omega) (by omega), stpOf_extract s k (k + 3) (by omega) 1 (by omega), stpOf_extract s k (k + 3) (by omega) 2 (by omega), if_neg c1, if_neg c2, if_neg c3, if_neg c4, if_neg c5, if_pos c]
    · intro j h1 h2
      have h2' : j < k + 1 + 1 + 1 := h2
      have hj : j = k ∨ j = k + 1 ∨ j = k + 1 + 1 := by omega
      rcases hj with h | h | h <;> rw [h] <;> omega
    · show _ = badLoop s 0 (k + 1 + 1 + 1)
      rw [badLoop_step s 0 k hk 2 (by rw [c]; rfl) (by omega), badLoop_step s 2 (k + 1) hk1 3 (by rw [nx, if_neg (by omega), if_pos rfl, if_pos (by omega)]) (by omega),
        badLoop_step s 3 (k + 1 + 1) hk2 0 (by rw [nx, if_neg (by omega), if_neg (by omega), if_pos rfl, if_pos (by omega)]) (by omega)]
  rename_i c6
  rw [if_neg c6]
  split at h
  · rename_i c
    rw [if_pos c]
    obtain ⟨he, l1, l2⟩ := readNamed_good h
    rw [he]
    have hk1 : k + 1 < s.size := byteI_pos (by omega)
    refine good_two s k _ 4 hk hk1 (wid_two (by omega)) h59 (by omega) ?_ (by rw [c]; rfl) (by omega) ?_
    · rw [stpOf, stpOf_extract0 s k (k + 2) (by omega) (by omega), stpOf_extract s k (k + 2) (by omega) 1 (by omega), if_neg c1, if_neg c2, if_neg c3, if_neg c4, if_neg c5, if_neg c6, if_pos c]
    · rw [nx, if_neg (by omega), if_neg (by omega), if_neg (by omega), if_pos rfl, if_pos ⟨l1, l2⟩]
  rename_i c7
  rw [if_neg c7]
  split at h
  · rename_i c
    rw [if_pos c]
    obtain ⟨he, l1, l2⟩ := readNamed_good h
    rw [he]
    have hk1 : k + 1 < s.size := byteI_pos (by omega)
    refine good_two s k _ 4 hk hk1 (wid_two (by omega)) h59 (by omega) ?_ (by rw [c]; rfl) (by omega) ?_
    · rw [stpOf, stpOf_extract0 s k (k + 2) (by omega) (by omega), stpOf_extract s k (k + 2) (by omega) 1 (by omega), if_neg c1, if_neg c2, if_neg c3, if_neg c4, if_neg c5, if_neg c6, if_neg c7]
    · rw [nx, if_neg (by omega), if_neg (by omega), if_neg (by omega), if_pos rfl, if_pos ⟨l1, l2⟩]
  · simp at h
end Go.Proofs.Ytfdbnilopfnifaa
