import Derived.Test.YtfacehklndapgaaD9
namespace Go.Proofs.Ytfacehklndapgaa
open Go.RowKit
attribute [local go_sem ↓] Go.wp_at_zero Go.wp_at_succ

/-- Where a schedule of a program leads, or the error: 0 with a world, else the error. -/
theorem world_err (s sch : ByteArray) (w : World) (h : (ckP s).1 ≠ 0) :
    Calls Try.prog 45 #[.string s, .string sch] w fun e w' => e = .returned (.tuple #[.pointer none, .int .i64 (ckP s).1]) ∧ Below w.heap.size w w' := by
  have hc := fun w => refCheck_any s w
  generalize (ckP s).1 = a at *
  generalize (ckP s).2 = b at *
  have ha : (a != 0) = true := by simpa using h
  go_enter Try.func45, Try.ntmps45
  go_wp2_with (go_at_call 14; refine (hc _).mono ?_; rintro e w1 ⟨rfl, hb⟩)
  go_ret2
  exact ⟨rfl, hb⟩

set_option maxHeartbeats 1000000 in
theorem world_ok (s sch : ByteArray) (w : World) (h : (ckP s).1 = 0) (hs : s.size ≤ 160) (hsch : sch.size ≤ maxLen) (I0 : (beginW (thLoop s 0 0 [])).Inv) (W : Wd) (hW : toLoop sch (beginW (thLoop s 0 0 [])) 0 = some W) :
    Calls Try.prog 45 #[.string s, .string sch] w fun e w' => ∃ p, e = .returned (.tuple #[.pointer (some ⟨p, 0, none⟩), .int .i64 0]) ∧ Below w.heap.size w w' ∧ RepW w' w.heap.size p W ∧ W.Inv := by
  have hc := fun w => refCheck_any s w
  have hto : ∀ w, Calls Try.prog 69 #[.string s, .string sch] w fun e w' => ∃ p, e = .returned (.tuple #[.pointer (some ⟨p, 0, none⟩), .bool true]) ∧ Below w.heap.size w w' ∧ RepW w' w.heap.size p W ∧ W.Inv := by
    intro w
    refine (To_any s sch w hs hsch I0).mono ?_
    rintro e w1 ⟨hb, ⟨W', p, h1, h2, h3, h4⟩ | ⟨h1, _⟩⟩
    · rw [hW] at h1; cases h1
      exact ⟨p, h2, hb, h3, h4⟩
    · rw [hW] at h1; cases h1
  rw [h] at hc
  generalize (ckP s).2 = b at *
  go_enter Try.func45, Try.ntmps45
  go_wp2_with (first
    | (go_at_call 14; refine (hc _).mono ?_; rintro e w1 ⟨rfl, hb⟩)
    | (go_at_call 69; refine (hto _).mono ?_; rintro e w2 ⟨p, rfl, hb2, hR, I⟩))
  go_ret2
  refine ⟨p, rfl, hb.trans (hb2.mono hb.size), ?_, I⟩
  obtain ⟨v, inner, hl, hf⟩ := hR
  refine ⟨v, inner, hl, ⟨fun r hr => ?_, hf.2⟩⟩
  obtain ⟨h1, h2⟩ := hf.1 r hr
  refine ⟨h1, ?_⟩
  rcases h2 with h2 | ⟨g, cap, cur, a, b, c⟩
  · exact .inl h2
  · exact .inr ⟨g, cap, cur, a, Nat.le_trans hb.size b, c⟩

set_option maxHeartbeats 1000000 in
theorem world_none (s sch : ByteArray) (w : World) (h : (ckP s).1 = 0) (hs : s.size ≤ 160) (hsch : sch.size ≤ maxLen) (I0 : (beginW (thLoop s 0 0 [])).Inv) (hW : toLoop sch (beginW (thLoop s 0 0 [])) 0 = none) :
    Calls Try.prog 45 #[.string s, .string sch] w fun e w' => e = .returned (.tuple #[.pointer none, .int .i64 5]) ∧ Below w.heap.size w w' := by
  have hc := fun w => refCheck_any s w
  have hto : ∀ w, Calls Try.prog 69 #[.string s, .string sch] w fun e w' => e = .returned (.tuple #[.pointer none, .bool false]) ∧ Below w.heap.size w w' := by
    intro w
    refine (To_any s sch w hs hsch I0).mono ?_
    rintro e w1 ⟨hb, ⟨W', p, h1, h2, h3, h4⟩ | ⟨h1, h2⟩⟩
    · rw [hW] at h1; cases h1
    · exact ⟨h2, hb⟩
  rw [h] at hc
  generalize (ckP s).2 = b at *
  go_enter Try.func45, Try.ntmps45
  go_wp2_with (first
    | (go_at_call 14; refine (hc _).mono ?_; rintro e w1 ⟨rfl, hb⟩)
    | (go_at_call 69; refine (hto _).mono ?_; rintro e w2 ⟨rfl, hb2⟩))
  go_ret2
  exact ⟨rfl, hb.trans (hb2.mono hb.size)⟩

/-! Digits as texts. -/
def digS (l : List Nat) : ByteArray := ⟨(l.map fun t => UInt8.ofNat (48 + t)).toArray⟩
theorem digS_size (l : List Nat) : (digS l).size = l.length := by simp [digS, ByteArray.size]
theorem digS_nil : digS [] = ⟨#[]⟩ := rfl
theorem digS_snoc (l : List Nat) (t : Nat) : digS l ++ nameS t = digS (l ++ [t]) := by
  apply ByteArray.ext
  simp [digS, nameS]
theorem digS_empty (l : List Nat) : (digS l).toList.isEmpty = l.isEmpty := by
  rw [ByteArray.toList_eq]
  cases l <;> simp [digS]
theorem digS_get (l : List Nat) (j : Nat) (h : j < (digS l).size) (hl : ∀ t ∈ l, t ≤ 100) : ((digS l)[j].toNat : Int) = 48 + (l[j]'(by rw [← digS_size]; exact h) : Nat) := by
  have hj : j < l.length := by rw [← digS_size]; exact h
  have e : (digS l)[j] = UInt8.ofNat (48 + l[j]) := by
    show (l.map fun t => UInt8.ofNat (48 + t)).toArray[j]'(by simpa using hj) = _
    simp
  rw [e, UInt8.toNat_ofNat']
  have := hl l[j] (by simp)
  omega

/-- The threads that may move, and whether some other waits, from thread t on. -/
def mayLoop (W : Wd) (t : Nat) (l : List Nat) (alive : Bool) : List Nat × Bool :=
  if t < W.prog.length then mayLoop W (t + 1) (if stateOf W t = 1 ∨ stateOf W t = 5 then l ++ [t] else l) (alive || decide (stateOf W t = 2) || decide (stateOf W t = 3)) else (l, alive)
termination_by W.prog.length - t

def resumeL (picks : ByteArray) : Nat → Wd → List Nat → List Nat × Int
  | 0, _, out => (out, 0)
  | fuel + 1, W, out =>
    if (mayLoop W 0 [] false).1 = [] then (out, if (mayLoop W 0 [] false).2 = true then 2 else 1)
    else if stateOf W ((mayLoop W 0 [] false).1.getD ((byteI picks out.length).toNat % (mayLoop W 0 [] false).1.length) 0) = 5 then (out, 3)
    else resumeL picks fuel (moveT W ((mayLoop W 0 [] false).1.getD ((byteI picks out.length).toNat % (mayLoop W 0 [] false).1.length) 0)) (out ++ [(mayLoop W 0 [] false).1.getD ((byteI picks out.length).toNat % (mayLoop W 0 [] false).1.length) 0])

theorem mayLoop_mem (W : Wd) : ∀ (n t : Nat) (l : List Nat) (a : Bool), W.prog.length - t = n → (∀ x ∈ l, x < W.prog.length ∧ (stateOf W x = 1 ∨ stateOf W x = 5)) → ∀ x ∈ (mayLoop W t l a).1, x < W.prog.length ∧ (stateOf W x = 1 ∨ stateOf W x = 5) := by
  intro n
  induction n with
  | zero => intro t l a hn hl; rw [mayLoop, if_neg (by omega)]; exact hl
  | succ n ih =>
    intro t l a hn hl
    rw [mayLoop, if_pos (by omega)]
    refine ih (t + 1) _ _ (by omega) ?_
    split
    · rename_i hc
      intro x hx
      rcases List.mem_append.1 hx with hx | hx
      · exact hl x hx
      · simp at hx; subst hx; exact ⟨by omega, hc⟩
    · exact hl

def strLen : Value → Nat | .string s => s.size | _ => 0
theorem moveT_log {W : Wd} (t : Nat) : (moveT W t).log.length = W.log.length + 1 := by
  unfold moveT moveW stepped
  repeat' split
  all_goals simp
end Go.Proofs.Ytfacehklndapgaa
