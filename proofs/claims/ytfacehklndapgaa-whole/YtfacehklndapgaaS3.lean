import Derived.Test.YtfacehklndapgaaS2
import Derived.Test.YtfacehklndapgaaE20
namespace Go.Proofs.Ytfacehklndapgaa
open Go.RowKit

def lit0 : ByteArray := ⟨#[62, 49, 59, 97, 98]⟩
theorem lit0_ck : (ckP lit0).1 = 0 := by decide +kernel
theorem lit0_run : resumeL ⟨#[]⟩ 61 (beginW (thLoop lit0 0 0 [])) [] = ([0, 1, 1], 1) := by decide +kernel
theorem lit0_to : toLoop ⟨#[]⟩ (beginW (thLoop lit0 0 0 [])) 0 = some (beginW (thLoop lit0 0 0 [])) := by rw [toLoop, if_neg (by decide)]
theorem lit0_V : resumeV lit0 ⟨#[]⟩ ⟨#[]⟩ = .tuple #[.string ⟨#[48, 49, 49]⟩, .int .i64 1, .int .i64 0] := by
  rw [resumeV, if_neg (by rw [lit0_ck]; decide), lit0_to]
  simp only [lit0_run]
  rfl

theorem toLoop_go (sch : ByteArray) : ∀ (ms : List Nat) (k : Nat) (W : Wd), W.Inv → k + ms.length ≤ sch.size → (∀ i (h : i < ms.length), byteI sch (k + i) = 48 + (ms[i] : Nat)) → toLoop sch W k = (goL W ms).bind fun V => toLoop sch V (k + ms.length)
  | [], k, W, _, _, _ => by simp [goL]
  | t :: ms, k, W, I, hl, hb => by
    have hb0 := hb 0 (by simp)
    simp only [Nat.add_zero, List.getElem_cons_zero] at hb0
    have h5 := I.good.n5
    have hlen : k < sch.size := by simp at hl; omega
    rw [toLoop, if_pos hlen, hb0]
    have e : ((48 : Int) + (t : Int) - 48).toNat = t := by omega
    rw [e, goL]
    by_cases hc : t < W.prog.length ∧ stateOf W t = 1
    · rw [if_pos hc, if_pos ⟨by omega, by omega, by omega, hc.2⟩]
      rw [toLoop_go sch ms (k + 1) _ (moveT_inv I hc.1 hc.2) (by simp at hl; omega) (fun i hi => by
        have := hb (i + 1) (by simpa using hi)
        rw [show k + 1 + i = k + (i + 1) by omega]
        simpa using this)]
      congr 1
      funext V
      congr 1
      simp; omega
    · rw [if_neg hc, if_neg (fun h => hc ⟨by omega, h.2.2.2⟩)]
      rfl
theorem byteI_dig (l : List Nat) (hl : ∀ t ∈ l, t ≤ 100) (k : Nat) (h : k < l.length) : byteI (digS l) k = 48 + (l[k] : Nat) := by
  have h' : k < (digS l).size := by rw [digS_size]; exact h
  rw [← byteI_in h', digS_get l k h' hl]
theorem toLoop_dig (W : Wd) (I : W.Inv) (l : List Nat) (hl : ∀ t ∈ l, t ≤ 100) : toLoop (digS l) W 0 = goL W l := by
  rw [toLoop_go (digS l) l 0 W I (by rw [digS_size]; omega) (fun i hi => by rw [Nat.zero_add]; exact byteI_dig l hl i hi)]
  cases goL W l with
  | none => rfl
  | some V => simp only [Option.bind_some]; rw [toLoop, if_neg (by rw [digS_size]; omega)]
/-- A sign that is no digit behind a schedule. -/
theorem toLoop_slash (W : Wd) (I : W.Inv) (l : List Nat) (hl : ∀ t ∈ l, t ≤ 100) (sch : ByteArray) (hs : sch = digS l ++ ⟨#[47]⟩) : toLoop sch W 0 = none := by
  have hsz : sch.size = l.length + 1 := by rw [hs, ByteArray.size_append, digS_size]; rfl
  have hget : ∀ i (h : i < l.length), byteI sch (0 + i) = 48 + (l[i] : Nat) := fun i hi => by
    rw [← byteI_dig l hl i hi, Nat.zero_add]
    have h1 : i < (digS l).size := by rw [digS_size]; exact hi
    have h2 : i < sch.size := by omega
    rw [← byteI_in h1, ← byteI_in h2]
    subst hs
    rw [ByteArray.getElem_append_left h1]
  have hlast : byteI sch l.length = 47 := by
    have h2 : l.length < sch.size := by omega
    rw [← byteI_in h2]
    subst hs
    rw [ByteArray.getElem_append_right (by rw [digS_size]; exact Nat.le_refl _)]
    simp only [digS_size, Nat.sub_self]
    rfl
  rw [toLoop_go sch l 0 W I (by omega) hget]
  cases goL W l with
  | none => rfl
  | some V =>
    simp only [Option.bind_some, Nat.zero_add]
    rw [toLoop, if_pos (by omega), hlast, if_neg (by omega)]

theorem mayLoop_al (W : Wd) : ∀ (n t : Nat) (l : List Nat) (al : Bool), W.prog.length - t = n → ((mayLoop W t l al).2 = true ↔ al = true ∨ ∃ u, t ≤ u ∧ u < W.prog.length ∧ (stateOf W u = 2 ∨ stateOf W u = 3)) := by
  intro n
  induction n with
  | zero =>
    intro t l al hn
    rw [mayLoop, if_neg (by omega)]
    constructor
    · exact fun h => .inl h
    · rintro (h | ⟨u, h1, h2, _⟩)
      · exact h
      · omega
  | succ n ih =>
    intro t l al hn
    rw [mayLoop, if_pos (by omega), ih (t + 1) _ _ (by omega)]
    constructor
    · rintro (h | ⟨u, h1, h2, h3⟩)
      · simp only [Bool.or_eq_true, decide_eq_true_eq] at h
        rcases h with (h | h) | h
        · exact .inl h
        · exact .inr ⟨t, Nat.le_refl _, by omega, .inl h⟩
        · exact .inr ⟨t, Nat.le_refl _, by omega, .inr h⟩
      · exact .inr ⟨u, by omega, h2, h3⟩
    · rintro (h | ⟨u, h1, h2, h3⟩)
      · left; simp [h]
      · by_cases hu : u = t
        · subst hu; left; rcases h3 with h3 | h3 <;> simp [h3]
        · exact .inr ⟨u, by omega, h2, h3⟩
theorem mayW_none {W : Wd} (G : W.Good) (h : mayW W = []) : ∀ u, u < W.prog.length → stateOf W u ≠ 1 ∧ stateOf W u ≠ 5 := by
  have hm : mayW W = moversL (progL W) (msOf W) W.prog.length := movers_sim G _ 0 false rfl (Nat.zero_le _)
  rw [hm] at h
  exact movers_none G h

/-- What stands where a run has ended. -/
inductive Ends (W : Wd) : Int → Prop
  | done : (∀ u, u < W.prog.length → stateOf W u = 0 ∨ stateOf W u = 4) → Ends W 1
  | stuck : (∀ u, u < W.prog.length → stateOf W u ≠ 1 ∧ stateOf W u ≠ 5) → (∃ u, u < W.prog.length ∧ (stateOf W u = 2 ∨ stateOf W u = 3)) → Ends W 2
  | fault : (∃ u, u < W.prog.length ∧ stateOf W u = 5) → Ends W 3
theorem RunsTo.ends {p : ByteArray} {W WE : Wd} {j : Nat} {ms : List Nat} {h : Int} (r : RunsTo p W j ms h WE) (I : W.Inv) : Ends WE h := by
  induction r with
  | @stop W j hm =>
    have hn := mayW_none I.good hm
    have ha := mayLoop_al W _ 0 [] false rfl
    split
    · rename_i hal
      rcases ha.1 hal with h | ⟨u, _, h2, h3⟩
      · cases h
      · exact .stuck hn ⟨u, h2, h3⟩
    · rename_i hal
      refine .done fun u hu => ?_
      have h1 := hn u hu
      have h2 := stateOf_range W u
      have h3 : ¬ (stateOf W u = 2 ∨ stateOf W u = 3) := fun h => hal (ha.2 (.inr ⟨u, Nat.zero_le _, hu, h⟩))
      omega
  | fault hm hs => exact .fault ⟨_, (mayW_mem (pickW_mem p _ hm)).1, hs⟩
  | move hm hs ht _ ih => exact ih (moveT_inv I ht hs)
end Go.Proofs.Ytfacehklndapgaa
