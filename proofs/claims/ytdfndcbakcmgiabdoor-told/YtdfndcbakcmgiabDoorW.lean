import Derived.Test.YtdfndcbakcmgiabDoorS2
import Derived.Test.YtdfndcbakcmgiabDoorE19
namespace Go.Proofs.YtdfndcbakcmgiabDoor
open Go.RowKit

def behindS (p : ByteArray) (k : Nat) : ByteArray := if p.size ≤ k then ⟨#[]⟩ else p.extract k p.size
theorem behind_byte (p : ByteArray) (k a : Nat) : byteI (behindS p k) a = byteI p (k + a) := by
  unfold behindS
  split
  · rename_i h
    rw [byteI, dif_neg (by simp [ByteArray.size]), byteI, dif_neg (by omega)]
  · rename_i h
    rw [byteI_extract p k p.size a (Nat.le_refl _)]
    split
    · rfl
    · rw [byteI, dif_neg (by omega)]
set_option maxHeartbeats 400000 in
theorem digit_any (t : Nat) (w : World) (ht : (t : Int) ≤ 100) :
    Calls Tryd.prog 14 #[.int .i64 t] w fun e w' => e = .returned (.string (nameS t)) ∧ Below w.heap.size w w' := by
  have hc := conv1 w (48 + t)
  have hn : (⟨#[UInt8.ofNat ((48 : Int) + t).toNat]⟩ : ByteArray) = nameS t := by
    rw [nameS]; congr 3
  rw [hn] at hc
  clear hn
  go_enter Tryd.func14, Tryd.ntmps14
  go_wp2
  go_ret
  exact ⟨rfl, (Below.refl _ _).alloc (Nat.le_refl _) _⟩

theorem lit0_V' : resumeV ⟨#[62, 49, 59, 97, 98]⟩ ⟨#[]⟩ ⟨#[]⟩ = .tuple #[.string ⟨#[48, 49, 49]⟩, .int .i64 1, .int .i64 0] := lit0_V

set_option maxRecDepth 100000 in
set_option maxHeartbeats 2000000 in
theorem isProgram_no (s picks : ByteArray) (w : World) (h : (ckP s).1 ≠ 0) :
    Calls Tryd.prog 15 #[.string s, .string picks] w fun e w' => e = .returned (.tuple #[.bool false, .bool true]) ∧ Below w.heap.size w w' := by
  have hR := fun (x y : ByteArray) w => run_any x y w
  have hC := fun w => Check_any s w
  rw [read_eq s] at hC
  have hV : resumeV s ⟨#[]⟩ picks = .tuple #[.string ⟨#[]⟩, .int .i64 0, .int .i64 (ckP s).1] := by rw [resumeV, if_pos h]
  generalize (ckP s).1 = a at *
  generalize (ckP s).2 = b at *
  have HV : Hid (resumeV s ⟨#[]⟩ picks = .tuple #[.string ⟨#[]⟩, .int .i64 0, .int .i64 a]) := hV
  have ha : (a == 0) = false := beq_false_of_ne h
  clear hV
  go_enter Tryd.func15, Tryd.ntmps15
  go_wp2_with (first
    | (go_at_call 8; refine (hR _ _ _).mono ?_; first | (rintro e w1 ⟨he, hb1⟩; rw [lit0_V'] at he; subst he) | (rintro e w3 ⟨he, hb3⟩; rw [HV.out] at he; subst he))
    | (go_at_call 25; refine (hC _).mono ?_; rintro e w2 ⟨rfl, hb2⟩))
  go_ret2
  exact ⟨rfl, (hb1.trans (hb2.mono hb1.size)).trans (hb3.mono (Nat.le_trans hb1.size hb2.size))⟩

set_option maxRecDepth 100000 in
set_option maxHeartbeats 2000000 in
theorem isProgram_yes (s picks out : ByteArray) (how : Int) (w : World) (h : (ckP s).1 = 0) (hV : resumeV s ⟨#[]⟩ picks = .tuple #[.string out, .int .i64 how, .int .i64 0]) (h1 : 1 ≤ how) (h3 : how ≤ 3) :
    Calls Tryd.prog 15 #[.string s, .string picks] w fun e w' => e = .returned (.tuple #[.bool true, .bool true]) ∧ Below w.heap.size w w' := by
  have hR := fun (x y : ByteArray) w => run_any x y w
  have hC := fun w => Check_any s w
  rw [read_eq s, h] at hC
  generalize (ckP s).2 = b at *
  have HV : Hid (resumeV s ⟨#[]⟩ picks = .tuple #[.string out, .int .i64 how, .int .i64 0]) := hV
  clear hV
  go_enter Tryd.func15, Tryd.ntmps15
  go_wp2_with (first
    | (go_at_call 8; refine (hR _ _ _).mono ?_; first | (rintro e w1 ⟨he, hb1⟩; rw [lit0_V'] at he; subst he) | (rintro e w3 ⟨he, hb3⟩; rw [HV.out] at he; subst he))
    | (go_at_call 25; refine (hC _).mono ?_; rintro e w2 ⟨rfl, hb2⟩))
  go_ret2
  exact ⟨rfl, (hb1.trans (hb2.mono hb1.size)).trans (hb3.mono (Nat.le_trans hb1.size hb2.size))⟩

/-- How a run that leads to these threads must have ended. -/
def endingL (l : List Th) (t : Nat) (how : Int) : Int :=
  if h : t < l.length then
    if l[t].state = 5 then 3 else if l[t].state = 1 then 0 else endingL l (t + 1) (if l[t].state = 2 ∨ l[t].state = 3 then 2 else how)
  else how
termination_by l.length - t

end Go.Proofs.YtdfndcbakcmgiabDoor
namespace Go.Proofs.YtdfndcbakcmgiabDoor
open Go.RowKit

/-- What Replay answers behind some moves. -/
theorem replay_go (s : ByteArray) (h0 : (ckP s).1 = 0) (l : List Nat) (hl : ∀ t ∈ l, t ≤ 100) (hlen : l.length ≤ 1000) (V : Wd) (hV : goL (beginW (thLoop s 0 0 [])) l = some V) (w : World) :
    Calls Tryd.prog 24 #[.string s, .string (digS l)] w fun e w' => ReplayOut w w' e (thsOf V V.prog.length) (flagsLoop V.set 0 ⟨#[]⟩) 0 := by
  have I0 := begin_inv s h0
  have hW : toLoop (digS l) (beginW (thLoop s 0 0 [])) 0 = some V := by rw [toLoop_dig _ I0 l hl]; exact hV
  have hsz : (digS l).size ≤ maxLen := by rw [digS_size]; unfold maxLen; omega
  have hln : (thsOf V V.prog.length).length = V.prog.length := thsOf_len V _
  refine (replay_ok s (digS l) hsz w h0 V hW).mono ?_
  rintro e w1 ⟨g, cap, rfl, hb, ho⟩
  refine ⟨some ⟨g, 0, none⟩, cap, by rw [hln], hb, ?_, fun h => absurd rfl h⟩
  refine thsIn_of (B := w.heap.size + 1) (cap := cap) ?_
  rw [hln]
  exact ho
theorem replay_not (s : ByteArray) (h0 : (ckP s).1 = 0) (sch : ByteArray) (hsz : sch.size ≤ maxLen) (hW : toLoop sch (beginW (thLoop s 0 0 [])) 0 = none) (w : World) :
    Calls Tryd.prog 24 #[.string s, .string sch] w fun e w' => e = .returned (badV 5) ∧ Below w.heap.size w w' :=
  replay_bad s sch w 5 (by decide) (fun w => follow_none s sch hsz w h0 hW)

/-- The error of Replay behind a schedule and one more digit. -/
theorem replay_next (s : ByteArray) (h0 : (ckP s).1 = 0) (l : List Nat) (hl : ∀ t ∈ l, t ≤ 100) (hlen : l.length ≤ 900) (V : Wd) (hV : goL (beginW (thLoop s 0 0 [])) l = some V) (t : Nat) (ht : t ≤ 9) (w : World) :
    Calls Tryd.prog 24 #[.string s, .string (digS (l ++ [t]))] w fun e w' => ∃ a n c fl, e = .returned (.tuple #[.agg #[.slice a n c, .string fl], .int .i64 (if t < V.prog.length ∧ stateOf V t = 1 then 0 else 5)]) ∧ Below w.heap.size w w' := by
  have I0 := begin_inv s h0
  have hl' : ∀ x ∈ l ++ [t], x ≤ 100 := fun x hx => by
    rcases List.mem_append.1 hx with hx | hx
    · exact hl x hx
    · simp at hx; omega
  have hg := goL_snoc l (beginW (thLoop s 0 0 [])) t
  rw [hV, Option.bind_some] at hg
  by_cases hc : t < V.prog.length ∧ stateOf V t = 1
  · rw [if_pos hc] at hg ⊢
    refine (replay_go s h0 (l ++ [t]) hl' (by simp; omega) _ hg w).mono ?_
    rintro e w1 ⟨a, c, rfl, hb, _⟩
    exact ⟨a, _, c, _, rfl, hb⟩
  · rw [if_neg hc] at hg ⊢
    refine (replay_not s h0 (digS (l ++ [t])) (by rw [digS_size]; unfold maxLen; simp; omega) (by rw [toLoop_dig _ I0 _ hl']; exact hg) w).mono ?_
    rintro e w1 ⟨rfl, hb⟩
    exact ⟨none, 0, 0, _, rfl, hb⟩
theorem replay_slash (s : ByteArray) (h0 : (ckP s).1 = 0) (l : List Nat) (hl : ∀ t ∈ l, t ≤ 100) (hlen : l.length ≤ 900) (w : World) :
    Calls Tryd.prog 24 #[.string s, .string (digS l ++ ⟨#[47]⟩)] w fun e w' => e = .returned (badV 5) ∧ Below w.heap.size w w' :=
  replay_not s h0 _ (by rw [ByteArray.size_append, digS_size]; unfold maxLen; simp [ByteArray.size]; omega) (toLoop_slash _ (begin_inv s h0) l hl _ rfl) w

theorem thsOf_get (V : Wd) (n t : Nat) (h : t < n) : (thsOf V n)[t]? = some (thOf V t) := by simp [thsOf, h]

end Go.Proofs.YtdfndcbakcmgiabDoor
namespace Go.Proofs.YtdfndcbakcmgiabDoor
open Go.RowKit

theorem digS_take (ms : List Nat) (k : Nat) : (digS ms).extract 0 k = digS (ms.take k) := by
  apply ByteArray.ext
  simp [digS, ByteArray.data_extract, List.map_take]
theorem digS_drop (ms : List Nat) (k : Nat) : (digS ms).extract k ms.length = digS (ms.drop k) := by
  apply ByteArray.ext
  simp [digS, ByteArray.data_extract, List.map_drop]
  exact List.take_of_length_le (by simp)

theorem ths_state (V : Wd) (n t : Nat) (h : t < (thsOf V n).length) : (thsOf V n)[t].state = stateOf V t := by
  simp [thsOf, thOf]
theorem ending_none (V : Wd) (n : Nat) (hn : ∀ u, u < n → stateOf V u ≠ 1 ∧ stateOf V u ≠ 5) : ∀ (d t : Nat) (h0 : Int), n - t = d → (endingL (thsOf V n) t h0 = h0 ∨ endingL (thsOf V n) t h0 = 2) ∧ ((∃ u, t ≤ u ∧ u < n ∧ (stateOf V u = 2 ∨ stateOf V u = 3)) → endingL (thsOf V n) t h0 = 2) ∧ ((∀ u, t ≤ u → u < n → ¬ (stateOf V u = 2 ∨ stateOf V u = 3)) → endingL (thsOf V n) t h0 = h0) := by
  intro d
  induction d with
  | zero =>
    intro t h0 hd
    rw [endingL, dif_neg (by rw [thsOf_len]; omega)]
    exact ⟨.inl rfl, fun ⟨u, h1, h2, _⟩ => by omega, fun _ => rfl⟩
  | succ d ih =>
    intro t h0 hd
    have ht : t < (thsOf V n).length := by rw [thsOf_len]; omega
    obtain ⟨n1, n5⟩ := hn t (by omega)
    rw [endingL, dif_pos ht, ths_state V n t ht, if_neg n5, if_neg n1]
    by_cases hc : stateOf V t = 2 ∨ stateOf V t = 3
    · rw [if_pos hc]
      obtain ⟨i1, i2, i3⟩ := ih (t + 1) 2 (by omega)
      have e : endingL (thsOf V n) (t + 1) 2 = 2 := by rcases i1 with h | h <;> exact h
      exact ⟨.inr e, fun _ => e, fun h => absurd hc (h t (Nat.le_refl _) (by omega))⟩
    · rw [if_neg hc]
      obtain ⟨i1, i2, i3⟩ := ih (t + 1) h0 (by omega)
      refine ⟨i1, fun ⟨u, h1, h2, h3⟩ => i2 ⟨u, ?_, h2, h3⟩, fun h => i3 fun u h1 h2 => h u (by omega) h2⟩
      by_cases hu : u = t
      · subst hu; exact absurd h3 hc
      · omega
theorem ending_fault (V : Wd) (n : Nat) : ∀ (d t : Nat) (h0 : Int), n - t = d → (∃ u, t ≤ u ∧ u < n ∧ stateOf V u = 5) → endingL (thsOf V n) t h0 = 3 ∨ endingL (thsOf V n) t h0 = 0 := by
  intro d
  induction d with
  | zero => intro t h0 hd ⟨u, h1, h2, _⟩; omega
  | succ d ih =>
    intro t h0 hd ⟨u, h1, h2, h3⟩
    have ht : t < (thsOf V n).length := by rw [thsOf_len]; omega
    rw [endingL, dif_pos ht, ths_state V n t ht]
    by_cases h5 : stateOf V t = 5
    · rw [if_pos h5]; exact .inl rfl
    · rw [if_neg h5]
      by_cases h1' : stateOf V t = 1
      · rw [if_pos h1']; exact .inr rfl
      · rw [if_neg h1']
        refine ih (t + 1) _ (by omega) ⟨u, ?_, h2, h3⟩
        by_cases hu : u = t
        · subst hu; exact absurd h3 h5
        · omega
theorem Ends.ending {V : Wd} {how : Int} (h : Ends V how) : endingL (thsOf V V.prog.length) 0 1 = how ∨ (how = 3 ∧ endingL (thsOf V V.prog.length) 0 1 = 0 ∧ ∃ u, u < V.prog.length ∧ stateOf V u = 5) := by
  cases h with
  | done h =>
    left
    exact (ending_none V _ (fun u hu => by have := h u hu; omega) _ 0 1 rfl).2.2 (fun u _ hu => by have := h u hu; omega)
  | stuck h he =>
    left
    obtain ⟨u, h2, h3⟩ := he
    exact (ending_none V _ h _ 0 1 rfl).2.1 ⟨u, Nat.zero_le _, h2, h3⟩
  | fault h =>
    obtain ⟨u, h2, h3⟩ := h
    rcases ending_fault V _ _ 0 1 rfl ⟨u, Nat.zero_le _, h2, h3⟩ with e | e
    · exact .inl e
    · exact .inr ⟨rfl, e, u, h2, h3⟩
theorem Ends.range {V : Wd} {how : Int} (h : Ends V how) : 1 ≤ how ∧ how ≤ 3 := by cases h <;> decide

end Go.Proofs.YtdfndcbakcmgiabDoor
