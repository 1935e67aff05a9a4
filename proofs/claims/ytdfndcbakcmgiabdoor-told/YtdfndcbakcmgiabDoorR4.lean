import Derived.Test.YtdfndcbakcmgiabDoorR1
namespace Go.Proofs.YtdfndcbakcmgiabDoor
open Go.RowKit

/-! The flag that an event asks for: who changed it last. -/
def oneF (u : Nat) : ByteArray := ⟨#[UInt8.ofNat (117 + u)]⟩
def twoF (c u : Nat) : ByteArray := ⟨#[UInt8.ofNat c, UInt8.ofNat (117 + u)]⟩
theorem twoF_b0 (c u : Nat) (h : c < 256) : byteI (twoF c u) 0 = c := by
  rw [← byteI_in (show 0 < (twoF c u).size by show 0 < 2; omega)]
  show ((UInt8.ofNat c).toNat : Int) = c
  rw [UInt8.toNat_ofNat']; omega
theorem twoF_b1 (c u : Nat) (h : u ≤ 100) : byteI (twoF c u) 1 = 117 + u := by
  rw [← byteI_in (show 1 < (twoF c u).size by show 1 < 2; omega)]
  show ((UInt8.ofNat (117 + u)).toNat : Int) = 117 + u
  rw [UInt8.toNat_ofNat']; omega
theorem flag_eq {n : Nat} {d : ByteArray} (h : DOk n d) (c kd u : Nat) (hc : (c = 33 ∧ kd = 3) ∨ (c = 126 ∧ kd = 4)) (hu : u < 6) : (d.toList == (twoF c u).toList) = decide ((stpOf d).kind = kd ∧ (stpOf d).which = u) := by
  have hk := stpOf_kd h
  by_cases he : d = twoF c u
  · have h0 : byteI d 0 = c := by rw [he, twoF_b0 _ _ (by omega)]
    have h1 : byteI d 1 = 117 + u := by rw [he, twoF_b1 _ _ (by omega)]
    have e : (d.toList == (twoF c u).toList) = true := by rw [he]; simp
    rw [e]
    generalize stpOf d = x at hk
    cases hk with
    | set v hv _ h1' => symm; simp; omega
    | clear v hv _ h1' => symm; simp; omega
    | _ => exfalso; omega
  · have e : (d.toList == (twoF c u).toList) = false := by
      refine beq_false_of_ne fun hh => he ?_
      rw [ByteArray.toList_eq, ByteArray.toList_eq] at hh
      apply ByteArray.ext
      exact Array.ext' hh
    rw [e]
    symm
    rw [decide_eq_false_iff_not]
    rintro ⟨h6, hw⟩
    apply he
    have hsz : ∀ (b : Int), byteI d 0 = b → (b = 33 ∨ b = 126) → d.size = 2 := fun b hb hbc => by rw [h.1, wid, if_pos (by omega)]
    generalize stpOf d = x at *
    cases hk with
    | set v hv h0 h1 =>
      simp only at hw h6
      have hvu : v = u := by omega
      have hc33 : c = 33 := by omega
      subst hvu hc33
      refine txt_eq (by rw [hsz _ h0 (.inl rfl)]; rfl) fun k hk => ?_
      rw [hsz _ h0 (.inl rfl)] at hk
      have : k = 0 ∨ k = 1 := by omega
      rcases this with rfl | rfl
      · rw [h0, twoF_b0 _ _ (by omega)]; rfl
      · rw [h1, twoF_b1 _ _ (by omega)]
    | clear v hv h0 h1 =>
      simp only at hw h6
      have hvu : v = u := by omega
      have hc33 : c = 126 := by omega
      subst hvu hc33
      refine txt_eq (by rw [hsz _ h0 (.inr rfl)]; rfl) fun k hk => ?_
      rw [hsz _ h0 (.inr rfl)] at hk
      have : k = 0 ∨ k = 1 := by omega
      rcases this with rfl | rfl
      · rw [h0, twoF_b0 _ _ (by omega)]; rfl
      · rw [h1, twoF_b1 _ _ (by omega)]
    | _ => simp at h6; omega
theorem ex_add (u : Nat) : (⟨#[33]⟩ : ByteArray) ++ oneF u = twoF 33 u := by
  apply ByteArray.ext
  simp [twoF, oneF]
theorem ti_add (u : Nat) : (⟨#[126]⟩ : ByteArray) ++ oneF u = twoF 126 u := by
  apply ByteArray.ext
  simp [twoF, oneF]
theorem byteI_ext1 {d : ByteArray} (hs : 2 ≤ d.size) (u : Nat) (h : byteI d 1 = 117 + u) (hu : u ≤ 100) : d.extract 1 2 = oneF u := by
  have h1 : (d.extract 1 2).size = 1 := by rw [ByteArray.size_extract]; omega
  refine txt_eq (by rw [h1]; rfl) fun k hk => ?_
  have hk0 : k = 0 := by omega
  subst hk0
  rw [byteI_extract d 1 2 0 hs, if_pos (by omega), h]
  rw [← byteI_in (show 0 < (oneF u).size by show 0 < 1; omega)]
  show (117 : Int) + u = ((UInt8.ofNat (117 + u)).toNat : Int)
  rw [UInt8.toNat_ofNat']; omega

/-- The last event below c that sets or clears flag u. -/
def flagL (log : List Ev) (u : Nat) : Nat → Int
  | 0 => -1
  | c + 1 => if (log[c]?.map fun v => decide (((stpOf v.txt).kind = 3 ∨ (stpOf v.txt).kind = 4) ∧ (stpOf v.txt).which = u)).getD false = true then c else flagL log u c

end Go.Proofs.YtdfndcbakcmgiabDoor
namespace Go.Proofs.YtdfndcbakcmgiabDoor
open Go.RowKit

/-! The event by which a lock is given back. -/
def oneG (u : Nat) : ByteArray := ⟨#[UInt8.ofNat (65 + u)]⟩
theorem give_ext (k : Nat) (h : k < 6) : (⟨#[65, 66, 67, 68, 69, 70]⟩ : ByteArray).extract k (k + 1) = oneG k := by
  have : k = 0 ∨ k = 1 ∨ k = 2 ∨ k = 3 ∨ k = 4 ∨ k = 5 := by omega
  rcases this with rfl | rfl | rfl | rfl | rfl | rfl <;> decide
theorem oneG_b0 (u : Nat) (h : u ≤ 100) : byteI (oneG u) 0 = 65 + u := by
  rw [← byteI_in (show 0 < (oneG u).size by show 0 < 1; omega)]
  show ((UInt8.ofNat (65 + u)).toNat : Int) = 65 + u
  rw [UInt8.toNat_ofNat']; omega
theorem give_eq {n : Nat} {d : ByteArray} (h : DOk n d) (u : Nat) (hu : u < 6) : (d.toList == (oneG u).toList) = decide ((stpOf d).kind = 2 ∧ (stpOf d).which = u) := by
  have hk := stpOf_kd h
  by_cases he : d = oneG u
  · have h0 : byteI d 0 = 65 + u := by rw [he, oneG_b0 _ (by omega)]
    have e : (d.toList == (oneG u).toList) = true := by rw [he]; simp
    rw [e]
    generalize stpOf d = x at hk
    cases hk with
    | give v hv _ => symm; simp; omega
    | _ => exfalso; omega
  · have e : (d.toList == (oneG u).toList) = false := by
      refine beq_false_of_ne fun hh => he ?_
      rw [ByteArray.toList_eq, ByteArray.toList_eq] at hh
      apply ByteArray.ext
      exact Array.ext' hh
    rw [e]
    symm
    rw [decide_eq_false_iff_not]
    rintro ⟨h6, hw⟩
    apply he
    have hsz := h.1
    generalize stpOf d = x at *
    cases hk with
    | give v hv h0 =>
      simp only at hw
      have hvu : v = u := by omega
      subst hvu
      have hs1 : d.size = 1 := by rw [hsz, wid, if_neg (by omega), if_neg (by omega)]
      refine txt_eq (by rw [hs1]; rfl) fun k hk => ?_
      have hk0 : k = 0 := by omega
      subst hk0
      rw [h0, oneG_b0 _ (by omega)]
    | _ => simp at h6

/-- The first event from g on by which thread t gives lock u back. -/
def givenL (log : List Ev) (t : Int) (u : Nat) (g : Nat) : Int :=
  if g < log.length then
    if (log[g]?.map fun v => decide (v.thread = t) && decide ((stpOf v.txt).kind = 2 ∧ (stpOf v.txt).which = u)).getD false = true then g else givenL log t u (g + 1)
  else -1
termination_by log.length - g

end Go.Proofs.YtdfndcbakcmgiabDoor
namespace Go.Proofs.YtdfndcbakcmgiabDoor
open Go.RowKit

/-- What a set of events needs with its event j. -/
inductive Need (log : List Ev) (m : List Bool) (j i : Nat) : Prop
  | ahead : i < j → (aheadR log j)[i]? = some true → Need log m j i
  | flag (b : Ev) (u : Nat) : log[j]? = some b → (stpOf b.txt).kind = 5 → (stpOf b.txt).which = u → flagL log u j = i → Need log m j i
  | give (b a : Ev) (u k : Nat) : log[j]? = some b → (stpOf b.txt).kind = 1 → (stpOf b.txt).which = u → k < j → m[k]? = some true → log[k]? = some a → (stpOf a.txt).kind = 1 → (stpOf a.txt).which = u → givenL log a.thread u (k + 1) = i → Need log m j i
def ClosedAt (log : List Ev) (m : List Bool) (j : Nat) : Prop := ∀ i, Need log m j i → m[i]? = some true

theorem flagL_lt (log : List Ev) (u : Nat) : ∀ c, flagL log u c = -1 ∨ ∃ i : Nat, flagL log u c = i ∧ i < c
  | 0 => .inl rfl
  | c + 1 => by
    rw [flagL]
    split
    · exact .inr ⟨c, rfl, by omega⟩
    · rcases flagL_lt log u c with h | ⟨i, h, hi⟩
      · exact .inl h
      · exact .inr ⟨i, h, by omega⟩
theorem givenL_lt (log : List Ev) (t : Int) (u : Nat) : ∀ d g, log.length - g = d → givenL log t u g = -1 ∨ ∃ i : Nat, givenL log t u g = i ∧ i < log.length := by
  intro d
  induction d with
  | zero => intro g hd; rw [givenL, if_neg (by omega)]; exact .inl rfl
  | succ d ih =>
    intro g hd
    rw [givenL, if_pos (by omega)]
    split
    · exact .inr ⟨g, rfl, by omega⟩
    · exact ih (g + 1) (by omega)
theorem take_eq {n : Nat} {d x : ByteArray} (h : DOk n d) (hx : DOk n x) (u : Nat) (hxk : (stpOf x).kind = 1 ∧ (stpOf x).which = u) : (d.toList == x.toList) = decide ((stpOf d).kind = 1 ∧ (stpOf d).which = u) := by
  by_cases he : d = x
  · subst he
    rw [decide_eq_true hxk]; simp
  · have e : (d.toList == x.toList) = false := by
      refine beq_false_of_ne fun hh => he ?_
      rw [ByteArray.toList_eq, ByteArray.toList_eq] at hh
      apply ByteArray.ext
      exact Array.ext' hh
    rw [e]
    symm
    rw [decide_eq_false_iff_not]
    rintro ⟨h6, hw⟩
    apply he
    have hk := stpOf_kd h
    have hk' := stpOf_kd hx
    have hs := h.1
    have hs' := hx.1
    obtain ⟨hx6, hxw⟩ := hxk
    generalize stpOf d = a at *
    generalize stpOf x = b at *
    cases hk with
    | take v hv h0 =>
      cases hk' with
      | take v' hv' h0' =>
        simp only at hw hxw
        have e1 : d.size = 1 := by rw [hs, wid, if_neg (by omega), if_neg (by omega)]
        have e2 : x.size = 1 := by rw [hs', wid, if_neg (by omega), if_neg (by omega)]
        refine txt_eq (by omega) fun k hk => ?_
        have hk0 : k = 0 := by omega
        subst hk0
        rw [h0, h0']; omega
      | _ => simp at hx6
    | _ => simp at h6

end Go.Proofs.YtdfndcbakcmgiabDoor
