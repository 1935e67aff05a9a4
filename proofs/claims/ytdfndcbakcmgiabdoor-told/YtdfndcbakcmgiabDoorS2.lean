import Derived.Test.YtdfndcbakcmgiabDoorS1
import Derived.Test.YtdfndcbakcmgiabDoorE19
namespace Go.Proofs.YtdfndcbakcmgiabDoor
open Go.RowKit

/-! Runs, as a relation. -/
def mayW (W : Wd) : List Nat := (mayLoop W 0 [] false).1
def aliveW (W : Wd) : Bool := (mayLoop W 0 [] false).2
def pickW (W : Wd) (p : ByteArray) (j : Nat) : Nat := (mayW W).getD ((byteI p j).toNat % (mayW W).length) 0

inductive RunsTo (p : ByteArray) : Wd → Nat → List Nat → Int → Wd → Prop
  | stop {W : Wd} {j : Nat} : mayW W = [] → RunsTo p W j [] (if aliveW W = true then 2 else 1) W
  | fault {W : Wd} {j : Nat} : mayW W ≠ [] → stateOf W (pickW W p j) = 5 → RunsTo p W j [] 3 W
  | move {W WE : Wd} {j : Nat} {ms : List Nat} {h : Int} : mayW W ≠ [] → stateOf W (pickW W p j) = 1 → pickW W p j < W.prog.length → RunsTo p (moveT W (pickW W p j)) (j + 1) ms h WE → RunsTo p W j (pickW W p j :: ms) h WE

theorem mayW_mem {W : Wd} {x : Nat} (h : x ∈ mayW W) : x < W.prog.length ∧ (stateOf W x = 1 ∨ stateOf W x = 5) := mayLoop_mem W _ 0 [] false rfl (by simp) x h
theorem pickW_mem {W : Wd} (p : ByteArray) (j : Nat) (h : mayW W ≠ []) : pickW W p j ∈ mayW W := by
  have hlp : 0 < (mayW W).length := List.length_pos_iff.2 h
  have hk : (byteI p j).toNat % (mayW W).length < (mayW W).length := Nat.mod_lt _ hlp
  have e : pickW W p j = (mayW W)[(byteI p j).toNat % (mayW W).length] := by simp [pickW, hk]
  rw [e]
  exact List.getElem_mem hk

theorem runs_ex (p : ByteArray) : ∀ (n : Nat) (W : Wd) (j : Nat), W.Inv → 60 - W.log.length = n → ∃ ms h WE, RunsTo p W j ms h WE := by
  intro n
  induction n with
  | zero =>
    intro W j I hn
    by_cases hm : mayW W = []
    · exact ⟨_, _, _, .stop hm⟩
    · obtain ⟨ht, hs⟩ := mayW_mem (pickW_mem p j hm)
      rcases hs with hs | hs
      · have I2 := moveT_inv I ht hs
        have := I2.small
        rw [moveT_log] at this
        have := I.small
        omega
      · exact ⟨_, _, _, .fault hm hs⟩
  | succ n ih =>
    intro W j I hn
    by_cases hm : mayW W = []
    · exact ⟨_, _, _, .stop hm⟩
    · obtain ⟨ht, hs⟩ := mayW_mem (pickW_mem p j hm)
      rcases hs with hs | hs
      · obtain ⟨ms, h, WE, hr⟩ := ih (moveT W (pickW W p j)) (j + 1) (moveT_inv I ht hs) (by rw [moveT_log]; omega)
        exact ⟨_, _, _, .move hm hs ht hr⟩
      · exact ⟨_, _, _, .fault hm hs⟩

theorem RunsTo.inv {p : ByteArray} {W WE : Wd} {j : Nat} {ms : List Nat} {h : Int} (r : RunsTo p W j ms h WE) (I : W.Inv) : WE.Inv ∧ WE.prog = W.prog ∧ WE.log.length = W.log.length + ms.length := by
  induction r with
  | stop _ => exact ⟨I, rfl, rfl⟩
  | fault _ _ => exact ⟨I, rfl, rfl⟩
  | move hm hs ht _ ih =>
    obtain ⟨h1, h2, h3⟩ := ih (moveT_inv I ht hs)
    refine ⟨h1, h2.trans (moveT_prog _ _), ?_⟩
    rw [h3, moveT_log, List.length_cons]; omega
theorem RunsTo.len {p : ByteArray} {W WE : Wd} {j : Nat} {ms : List Nat} {h : Int} (r : RunsTo p W j ms h WE) (I : W.Inv) : ms.length ≤ 60 := by
  obtain ⟨h1, _, h3⟩ := r.inv I
  have := h1.small
  omega
theorem RunsTo.resumeL {p : ByteArray} {W WE : Wd} {j : Nat} {ms : List Nat} {h : Int} (r : RunsTo p W j ms h WE) : ∀ (f : Nat) (o : List Nat), o.length = j → ms.length < f → resumeL p f W o = (o ++ ms, h) := by
  induction r with
  | stop hm =>
    intro f o ho hf
    obtain ⟨f, rfl⟩ : ∃ g, f = g + 1 := ⟨f - 1, by simp at hf; omega⟩
    rw [Go.Proofs.YtdfndcbakcmgiabDoor.resumeL, if_pos (show (mayLoop _ 0 [] false).1 = [] from hm), List.append_nil]; rfl
  | fault hm hs =>
    intro f o ho hf
    obtain ⟨f, rfl⟩ : ∃ g, f = g + 1 := ⟨f - 1, by simp at hf; omega⟩
    subst ho
    rw [Go.Proofs.YtdfndcbakcmgiabDoor.resumeL, if_neg (show ¬ (mayLoop _ 0 [] false).1 = [] from hm)]
    simp only [pickW, mayW] at hs
    rw [if_pos hs, List.append_nil]
  | @move W WE j ms h hm hs ht _ ih =>
    intro f o ho hf
    obtain ⟨f, rfl⟩ : ∃ g, f = g + 1 := ⟨f - 1, by simp at hf; omega⟩
    subst ho
    rw [Go.Proofs.YtdfndcbakcmgiabDoor.resumeL, if_neg (show ¬ (mayLoop _ 0 [] false).1 = [] from hm)]
    have hs' := hs
    simp only [pickW, mayW] at hs'
    rw [if_neg (by rw [hs']; decide)]
    have := ih f (o ++ [pickW W p o.length]) (by simp) (by simp at hf; omega)
    simp only [pickW, mayW] at this ⊢
    rw [this]
    simp

/-- The world behind some moves. -/
def goL (W : Wd) : List Nat → Option Wd
  | [] => some W
  | t :: ms => if t < W.prog.length ∧ stateOf W t = 1 then goL (moveT W t) ms else none
theorem goL_snoc : ∀ (ms : List Nat) (W : Wd) (t : Nat), goL W (ms ++ [t]) = (goL W ms).bind fun V => if t < V.prog.length ∧ stateOf V t = 1 then some (moveT V t) else none
  | [], W, t => by simp [goL]
  | a :: ms, W, t => by
    simp only [List.cons_append, goL]
    split
    · exact goL_snoc ms _ t
    · rfl
theorem goL_inv : ∀ (ms : List Nat) (W V : Wd), W.Inv → goL W ms = some V → V.Inv ∧ V.prog = W.prog
  | [], W, V, I, h => by simp only [goL, Option.some.injEq] at h; subst h; exact ⟨I, rfl⟩
  | a :: ms, W, V, I, h => by
    simp only [goL] at h
    split at h
    · rename_i hc
      obtain ⟨h1, h2⟩ := goL_inv ms _ V (moveT_inv I hc.1 hc.2) h
      exact ⟨h1, h2.trans (moveT_prog _ _)⟩
    · cases h
theorem RunsTo.goes {p : ByteArray} {W WE : Wd} {j : Nat} {ms : List Nat} {h : Int} (r : RunsTo p W j ms h WE) : goL W ms = some WE := by
  induction r with
  | stop _ => rfl
  | fault _ _ => rfl
  | move hm hs ht _ ih => rw [goL, if_pos ⟨ht, hs⟩]; exact ih
theorem RunsTo.small {p : ByteArray} {W WE : Wd} {j : Nat} {ms : List Nat} {h : Int} (r : RunsTo p W j ms h WE) (h5 : W.prog.length ≤ 5) : ∀ t ∈ ms, t < 5 := by
  induction r with
  | stop _ => simp
  | fault _ _ => simp
  | move hm hs ht _ ih =>
    intro t htm
    rcases List.mem_cons.1 htm with rfl | htm
    · omega
    · exact ih (by rw [moveT_prog]; exact h5) t htm
/-- From each of its states on a run goes on to the same end. -/
theorem RunsTo.rest {p : ByteArray} {W WE : Wd} {j : Nat} {ms : List Nat} {h : Int} (r : RunsTo p W j ms h WE) : ∀ k, k ≤ ms.length → ∃ V, goL W (ms.take k) = some V ∧ RunsTo p V (j + k) (ms.drop k) h WE := by
  induction r with
  | stop hm => intro k hk; simp at hk; subst hk; exact ⟨_, rfl, .stop hm⟩
  | fault hm hs => intro k hk; simp at hk; subst hk; exact ⟨_, rfl, .fault hm hs⟩
  | move hm hs ht hr ih =>
    intro k hk
    cases k with
    | zero => exact ⟨_, rfl, .move hm hs ht hr⟩
    | succ k =>
      obtain ⟨V, h1, h2⟩ := ih k (by simpa using hk)
      refine ⟨V, ?_, ?_⟩
      · rw [List.take_succ_cons, goL, if_pos ⟨ht, hs⟩]; exact h1
      · rw [List.drop_succ_cons, show ∀ a : Nat, a + (k + 1) = a + 1 + k from fun a => by omega]; exact h2
theorem RunsTo.shift {p q : ByteArray} {W WE : Wd} {i : Nat} {ms : List Nat} {h : Int} (r : RunsTo p W i ms h WE) : ∀ (j : Nat), (∀ a, byteI q (j + a) = byteI p (i + a)) → RunsTo q W j ms h WE := by
  induction r with
  | stop hm => intro j _; exact .stop hm
  | fault hm hs =>
    intro j hb
    have hb0 := hb 0
    refine .fault hm ?_
    simp only [Nat.add_zero] at hb0
    rw [pickW, hb0]; exact hs
  | @move W WE i ms h hm hs ht _ ih =>
    intro j hb
    have hb0 := hb 0
    simp only [Nat.add_zero] at hb0
    have e : pickW W q j = pickW W p i := by rw [pickW, hb0]; rfl
    rw [← e]
    refine .move hm (by rw [e]; exact hs) (by rw [e]; exact ht) ?_
    rw [e]
    exact ih (j + 1) (fun a => by have := hb (a + 1); rw [show j + 1 + a = j + (a + 1) by omega, show i + 1 + a = i + (a + 1) by omega]; exact this)
end Go.Proofs.YtdfndcbakcmgiabDoor
namespace Go.Proofs.YtdfndcbakcmgiabDoor
open Go.RowKit

def lit0 : ByteArray := ⟨#[62, 49, 59, 97, 98]⟩
theorem lit0_ck : (ckP lit0).1 = 0 := by decide +kernel
theorem lit0_run : resumeL ⟨#[]⟩ 61 (beginW (thLoop lit0 0 0 [])) [] = ([0, 1, 1], 1) := by decide +kernel
theorem lit0_to : toLoop ⟨#[]⟩ (beginW (thLoop lit0 0 0 [])) 0 = some (beginW (thLoop lit0 0 0 [])) := by rw [toLoop, if_neg (by decide)]
theorem lit0_V : resumeV lit0 ⟨#[]⟩ ⟨#[]⟩ = .tuple #[.string ⟨#[48, 49, 49]⟩, .int .i64 1, .int .i64 0] := by
  rw [resumeV, if_neg (by rw [lit0_ck]; decide), lit0_to]
  simp only [lit0_run]
  rfl

theorem toLoop_go (sch : ByteArray) : ∀ (ms : List Nat) (k : Nat) (W : Wd), W.Inv → k + ms.length ≤ sch.size → (∀ i (h : i < ms.length), byteI sch (k + i) = 48 + (ms[i] : Nat)) → toLoop sch W k = (goL W ms).bind fun V => toLoop sch V (k + ms.length)
  | [], k, W, _, _, _ => by simp [goL]
  | t :: ms, k, W, I, hl, hb => by
    have hb0 := hb 0 (by simp)
    simp only [Nat.add_zero, List.getElem_cons_zero] at hb0
    have h5 := I.good.n5
    have hlen : k < sch.size := by simp at hl; omega
    rw [toLoop, if_pos hlen, hb0]
    have e : ((48 : Int) + (t : Int) - 48).toNat = t := by omega
    rw [e, goL]
    by_cases hc : t < W.prog.length ∧ stateOf W t = 1
    · rw [if_pos hc, if_pos ⟨by omega, by omega, by omega, hc.2⟩]
      rw [toLoop_go sch ms (k + 1) _ (moveT_inv I hc.1 hc.2) (by simp at hl; omega) (fun i hi => by
        have := hb (i + 1) (by simpa using hi)
        rw [show k + 1 + i = k + (i + 1) by omega]
        simpa using this)]
      congr 1
      funext V
      congr 1
      simp; omega
    · rw [if_neg hc, if_neg (fun h => hc ⟨by omega, h.2.2.2⟩)]
      rfl
theorem byteI_dig (l : List Nat) (hl : ∀ t ∈ l, t ≤ 100) (k : Nat) (h : k < l.length) : byteI (digS l) k = 48 + (l[k] : Nat) := by
  have h' : k < (digS l).size := by rw [digS_size]; exact h
  rw [← byteI_in h', digS_get l k h' hl]
theorem toLoop_dig (W : Wd) (I : W.Inv) (l : List Nat) (hl : ∀ t ∈ l, t ≤ 100) : toLoop (digS l) W 0 = goL W l := by
  rw [toLoop_go (digS l) l 0 W I (by rw [digS_size]; omega) (fun i hi => by rw [Nat.zero_add]; exact byteI_dig l hl i hi)]
  cases goL W l with
  | none => rfl
  | some V => simp only [Option.bind_some]; rw [toLoop, if_neg (by rw [digS_size]; omega)]
/-- A sign that is no digit behind a schedule. -/
theorem toLoop_slash (W : Wd) (I : W.Inv) (l : List Nat) (hl : ∀ t ∈ l, t ≤ 100) (sch : ByteArray) (hs : sch = digS l ++ ⟨#[47]⟩) : toLoop sch W 0 = none := by
  have hsz : sch.size = l.length + 1 := by rw [hs, ByteArray.size_append, digS_size]; rfl
  have hget : ∀ i (h : i < l.length), byteI sch (0 + i) = 48 + (l[i] : Nat) := fun i hi => by
    rw [← byteI_dig l hl i hi, Nat.zero_add]
    have h1 : i < (digS l).size := by rw [digS_size]; exact hi
    have h2 : i < sch.size := by omega
    rw [← byteI_in h1, ← byteI_in h2]
    subst hs
    rw [ByteArray.getElem_append_left h1]
  have hlast : byteI sch l.length = 47 := by
    have h2 : l.length < sch.size := by omega
    rw [← byteI_in h2]
    subst hs
    rw [ByteArray.getElem_append_right (by rw [digS_size]; exact Nat.le_refl _)]
    simp only [digS_size, Nat.sub_self]
    rfl
  rw [toLoop_go sch l 0 W I (by omega) hget]
  cases goL W l with
  | none => rfl
  | some V =>
    simp only [Option.bind_some, Nat.zero_add]
    rw [toLoop, if_pos (by omega), hlast, if_neg (by omega)]

theorem mayLoop_al (W : Wd) : ∀ (n t : Nat) (l : List Nat) (al : Bool), W.prog.length - t = n → ((mayLoop W t l al).2 = true ↔ al = true ∨ ∃ u, t ≤ u ∧ u < W.prog.length ∧ (stateOf W u = 2 ∨ stateOf W u = 3)) := by
  intro n
  induction n with
  | zero =>
    intro t l al hn
    rw [mayLoop, if_neg (by omega)]
    constructor
    · exact fun h => .inl h
    · rintro (h | ⟨u, h1, h2, _⟩)
      · exact h
      · omega
  | succ n ih =>
    intro t l al hn
    rw [mayLoop, if_pos (by omega), ih (t + 1) _ _ (by omega)]
    constructor
    · rintro (h | ⟨u, h1, h2, h3⟩)
      · simp only [Bool.or_eq_true, decide_eq_true_eq] at h
        rcases h with (h | h) | h
        · exact .inl h
        · exact .inr ⟨t, Nat.le_refl _, by omega, .inl h⟩
        · exact .inr ⟨t, Nat.le_refl _, by omega, .inr h⟩
      · exact .inr ⟨u, by omega, h2, h3⟩
    · rintro (h | ⟨u, h1, h2, h3⟩)
      · left; simp [h]
      · by_cases hu : u = t
        · subst hu; left; rcases h3 with h3 | h3 <;> simp [h3]
        · exact .inr ⟨u, by omega, h2, h3⟩
theorem mayW_none {W : Wd} (G : W.Good) (h : mayW W = []) : ∀ u, u < W.prog.length → stateOf W u ≠ 1 ∧ stateOf W u ≠ 5 := by
  have hm : mayW W = moversL (progL W) (msOf W) W.prog.length := movers_sim G _ 0 false rfl (Nat.zero_le _)
  rw [hm] at h
  exact movers_none G h

/-- What stands where a run has ended. -/
inductive Ends (W : Wd) : Int → Prop
  | done : (∀ u, u < W.prog.length → stateOf W u = 0 ∨ stateOf W u = 4) → Ends W 1
  | stuck : (∀ u, u < W.prog.length → stateOf W u ≠ 1 ∧ stateOf W u ≠ 5) → (∃ u, u < W.prog.length ∧ (stateOf W u = 2 ∨ stateOf W u = 3)) → Ends W 2
  | fault : (∃ u, u < W.prog.length ∧ stateOf W u = 5) → Ends W 3
theorem RunsTo.ends {p : ByteArray} {W WE : Wd} {j : Nat} {ms : List Nat} {h : Int} (r : RunsTo p W j ms h WE) (I : W.Inv) : Ends WE h := by
  induction r with
  | @stop W j hm =>
    have hn := mayW_none I.good hm
    have ha := mayLoop_al W _ 0 [] false rfl
    split
    · rename_i hal
      rcases ha.1 hal with h | ⟨u, _, h2, h3⟩
      · cases h
      · exact .stuck hn ⟨u, h2, h3⟩
    · rename_i hal
      refine .done fun u hu => ?_
      have h1 := hn u hu
      have h2 := stateOf_range W u
      have h3 : ¬ (stateOf W u = 2 ∨ stateOf W u = 3) := fun h => hal (ha.2 (.inr ⟨u, Nat.zero_le _, hu, h⟩))
      omega
  | fault hm hs => exact .fault ⟨_, (mayW_mem (pickW_mem p _ hm)).1, hs⟩
  | move hm hs ht _ ih => exact ih (moveT_inv I ht hs)
end Go.Proofs.YtdfndcbakcmgiabDoor
