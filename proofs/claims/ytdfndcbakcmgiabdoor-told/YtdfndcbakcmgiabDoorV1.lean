import Derived.Test.YtdfndcbakcmgiabDoorU1
import Derived.Test.YtdfndcbakcmgiabDoorU6
namespace Go.Proofs.YtdfndcbakcmgiabDoor
open Go.RowKit

/-! The reference: does a lock stand among some? -/
theorem atFrom_let (l : List Nat) (h6 : ∀ x ∈ l, x < 6) (k : Nat) (hk : k < 6) : ∀ d j, l.length - j = d → (0 ≤ atFrom (letS 97 l) (UInt8.ofNat (97 + k)) j ↔ k ∈ l.drop j) := by
  intro d
  induction d with
  | zero =>
    intro j hj
    rw [atFrom, dif_neg (by rw [letS_size]; omega), List.drop_eq_nil_of_le (by omega)]
    simp
  | succ d ih =>
    intro j hj
    have hjl : j < l.length := by omega
    obtain ⟨x, hx⟩ := get_some l j hjl
    have hx6 := h6 x (List.mem_of_getElem? hx)
    have hsz : j < (letS 97 l).size := by rw [letS_size]; exact hjl
    have hat := letS_at l j x hx hx6 hsz
    have hdr : l.drop j = x :: l.drop (j + 1) := by
      obtain ⟨_, rfl⟩ := List.getElem?_eq_some_iff.1 hx
      exact List.drop_eq_getElem_cons hjl
    rw [atFrom, dif_pos hsz, hdr, List.mem_cons]
    have hc : ((UInt8.ofNat (97 + k)).toNat : Int) = 97 + k := by rw [UInt8.toNat_ofNat']; omega
    by_cases he : k = x
    · rw [if_pos (u8_eq.2 (by rw [hat, hc, he]))]
      constructor
      · intro _; exact .inl he
      · intro _; omega
    · rw [if_neg (fun h => he (by have := u8_eq.1 h; rw [hat, hc] at this; omega)), ih (j + 1) (by omega)]
      constructor
      · exact .inr
      · rintro (h | h)
        · exact absurd h he
        · exact h

/-! The last event of a thread below n. -/
def lastI (o : Option Nat) : Int := match o with
  | none => -1
  | some i => i

end Go.Proofs.YtdfndcbakcmgiabDoor
namespace Go.Proofs.YtdfndcbakcmgiabDoor
open Go.RowKit

/-! The reference's gate. -/
def gateB (ring : List Aq) : Bool := (List.range 6).any fun k => decide (1 < ring.countP fun x => decide (k ∈ x.hl))
theorem count_two {P : Aq → Bool} : ∀ (l : List Aq), (1 < l.countP P ↔ ¬ l.Pairwise fun x y => ¬ (P x = true ∧ P y = true))
  | [] => by simp
  | x :: l => by
    rw [List.pairwise_cons, List.countP_cons]
    have ih := count_two (P := P) l
    by_cases hx : P x = true
    · rw [if_pos hx]
      have : (0 < l.countP P) ↔ ¬ ∀ y ∈ l, ¬ (P x = true ∧ P y = true) := by
        rw [List.countP_pos_iff]
        constructor
        · rintro ⟨y, hy, h⟩ hh; exact hh y hy ⟨hx, h⟩
        · intro h
          apply Classical.byContradiction
          intro hh
          exact h fun y hy ⟨_, h2⟩ => hh ⟨y, hy, h2⟩
      constructor
      · intro h ⟨h1, _⟩
        exact this.1 (by omega) h1
      · intro h
        have : 0 < l.countP P := by
          apply Classical.byContradiction
          intro h0
          have hz : l.countP P = 0 := by omega
          refine h ⟨?_, ?_⟩
          · exact Classical.byContradiction fun hh => h0 (this.2 hh)
          · exact Classical.byContradiction fun hh => by have := ih.2 hh; omega
        omega
    · rw [if_neg hx, Nat.add_zero, ih]
      constructor
      · intro h ⟨_, h2⟩; exact h h2
      · intro h h2; exact h ⟨fun y _ ⟨h3, _⟩ => hx h3, h2⟩
theorem gate_eq (ring : List Aq) (h6 : ∀ x ∈ ring, ∀ k ∈ x.hl, k < 6) : gateB ring = gatedB ring := by
  rw [Bool.eq_iff_iff, gateB, gatedB, List.any_eq_true]
  simp only [decide_eq_true_eq, List.mem_range, Bool.not_eq_true', decide_eq_false_iff_not]
  constructor
  · rintro ⟨k, hk, h⟩ hP
    refine (count_two ring).1 h ?_
    refine List.Pairwise.imp ?_ hP
    rintro x y hs ⟨h1, h2⟩
    rw [shareB, decide_eq_false_iff_not] at hs
    exact hs ⟨k, by simpa using h2, by simpa using h1⟩
  · intro hP
    apply Classical.byContradiction
    intro hh
    apply hP
    have hall : ∀ k, k < 6 → ring.Pairwise fun x y => ¬ (decide (k ∈ x.hl) = true ∧ decide (k ∈ y.hl) = true) := fun k hk =>
      Classical.byContradiction fun h => hh ⟨k, hk, (count_two ring).2 h⟩
    rw [List.pairwise_iff_getElem]
    intro i j hi hj hij
    rw [shareB, decide_eq_false_iff_not]
    rintro ⟨k, h1, h2⟩
    have hk := h6 _ (List.getElem_mem hi) k h2
    exact List.pairwise_iff_getElem.1 (hall k hk) i j hi hj hij ⟨by simpa using h2, by simpa using h1⟩

def ringOf (la : List Aq) (p : List Nat) : List Aq := p.map (aqOf la)
theorem ringOf_take (la : List Aq) (p : List Nat) (i k : Nat) (h : p[i]? = some k) : ringOf la (p.take (i + 1)) = ringOf la (p.take i) ++ [aqOf la k] := by
  rw [ringOf, List.take_add_one, h]; simp [ringOf]

end Go.Proofs.YtdfndcbakcmgiabDoor
