import Derived.Test.YtdfndcbakcmgiabDoorS1
import Derived.Test.YtdfndcbakcmgiabDoorD1
import Derived.Laws.OwnMore
namespace Go.Proofs.YtdfndcbakcmgiabDoor
open Go.RowKit

/-! The log of a world, and what a schedule tells (the reference's side). -/
structure EvOk (n : Nat) (v : Ev) : Prop where
  dok : DOk n v.txt
  th : ∃ t : Nat, v.thread = t ∧ t < n
def LogOk (W : Wd) : Prop := ∀ v ∈ W.log, EvOk W.prog.length v

theorem moveT_logE {W : Wd} (t : Nat) : (moveT W t).log = W.log ++ [⟨t, (W.place[t]?.getD 0 : Nat), (W.prog[t]?.getD [])[W.place[t]?.getD 0]?.getD ⟨#[]⟩, holdsOf W t⟩] := by
  unfold moveT moveW stepped
  repeat' split
  all_goals rfl
theorem moveT_logOk {W : Wd} (I : W.Inv) (h : LogOk W) {t : Nat} (ht : t < W.prog.length) (hs : stateOf W t = 1) : LogOk (moveT W t) := by
  obtain ⟨n, l, d, A, _⟩ := stateOf_at W t (by omega) (by omega) I.good ht
  intro v hv
  rw [moveT_logE, List.mem_append] at hv
  rw [moveT_prog]
  rcases hv with hv | hv
  · exact h v hv
  · simp only [List.mem_singleton] at hv
    subst hv
    refine ⟨?_, t, rfl, ht⟩
    simp only [A.prog, A.place, A.txt, Option.getD_some]
    exact I.good.dok t l n d A.prog A.txt
theorem toLoop_logOk (sch : ByteArray) : ∀ (n k : Nat) (W0 W : Wd), sch.size - k = n → W0.Inv → LogOk W0 → toLoop sch W0 k = some W → LogOk W := by
  intro n
  induction n with
  | zero =>
    intro k W0 W hn I hL h
    rw [toLoop, if_neg (by omega)] at h
    cases h; exact hL
  | succ n ih =>
    intro k W0 W hn I hL h
    rw [toLoop, if_pos (by omega)] at h
    split at h
    · rename_i hc
      exact ih (k + 1) _ W (by omega) (moveT_inv I (by omega) hc.2.2.2) (moveT_logOk I hL (by omega) hc.2.2.2) h
    · cases h
theorem begin_logOk (ths : List ByteArray) : LogOk (beginW ths) := fun v hv => by simp [beginW, madeW] at hv

/-! Texts of instructions. -/
theorem txt_eq {d x : ByteArray} (hs : d.size = x.size) (h : ∀ k, k < d.size → byteI d k = byteI x k) : d = x := by
  apply ByteArray.ext
  apply Array.ext
  · exact hs
  · intro k h1 h2
    have e := h k h1
    rw [← byteI_in (show k < d.size from h1), ← byteI_in (show k < x.size from h2)] at e
    have e2 : d[k].toNat = x[k].toNat := by exact_mod_cast e
    exact UInt8.toNat_inj.1 e2
def twoS (c : Nat) (u : Nat) : ByteArray := ⟨#[UInt8.ofNat c, UInt8.ofNat (48 + u)]⟩
theorem twoS_b0 (c u : Nat) (h : c < 256) : byteI (twoS c u) 0 = c := by
  rw [← byteI_in (show 0 < (twoS c u).size by show 0 < 2; omega)]
  show ((UInt8.ofNat c).toNat : Int) = c
  rw [UInt8.toNat_ofNat']; omega
theorem twoS_b1 (c u : Nat) (h : u ≤ 100) : byteI (twoS c u) 1 = 48 + u := by
  rw [← byteI_in (show 1 < (twoS c u).size by show 1 < 2; omega)]
  show ((UInt8.ofNat (48 + u)).toNat : Int) = 48 + u
  rw [UInt8.toNat_ofNat']; omega
theorem txt_two {n : Nat} {d : ByteArray} (h : DOk n d) {c u : Nat} (hc : c = 60 ∨ c = 62) (hu : u ≤ 100) (h0 : byteI d 0 = c) (h1 : byteI d 1 = 48 + u) : d = twoS c u := by
  have hs : d.size = 2 := by rw [h.1, wid, if_pos (by omega)]
  refine txt_eq (by rw [hs]; rfl) fun k hk => ?_
  have : k = 0 ∨ k = 1 := by omega
  rcases this with rfl | rfl
  · rw [h0, twoS_b0 _ _ (by omega)]
  · rw [h1, twoS_b1 _ _ hu]
theorem start_eq {n : Nat} {d : ByteArray} (h : DOk n d) (u : Nat) (hu : u ≤ 100) : (d.toList == (twoS 62 u).toList) = decide ((stpOf d).kind = 6 ∧ (stpOf d).which = u) := by
  have hk := stpOf_kd h
  by_cases he : d = twoS 62 u
  · have h0 : byteI d 0 = 62 := by rw [he, twoS_b0 _ _ (by omega)]; rfl
    have h1 : byteI d 1 = 48 + u := by rw [he, twoS_b1 _ _ hu]
    have e : (d.toList == (twoS 62 u).toList) = true := by rw [he]; simp
    rw [e]
    generalize stpOf d = x at hk
    cases hk with
    | start v hv _ h1' => symm; simp; omega
    | _ => exfalso; omega
  · have e : (d.toList == (twoS 62 u).toList) = false := by
      refine beq_false_of_ne fun hh => he ?_
      rw [ByteArray.toList_eq, ByteArray.toList_eq] at hh
      apply ByteArray.ext
      exact Array.ext' hh
    rw [e]
    symm
    rw [decide_eq_false_iff_not]
    rintro ⟨h6, hw⟩
    apply he
    generalize stpOf d = x at *
    cases hk with
    | start v hv h0 h1 =>
      simp only at hw
      have : v = u := by omega
      subst this
      exact txt_two h (.inr rfl) hu h0 h1
    | _ => simp at h6
theorem twoS_tail (u : Nat) : (twoS 60 u).extract 1 2 = nameS u := by
  apply ByteArray.ext
  simp [twoS, nameS]
theorem gt_name (u : Nat) : (⟨#[62]⟩ : ByteArray) ++ nameS u = twoS 62 u := by
  apply ByteArray.ext
  simp [twoS, nameS]
theorem nameS_eq (t u : Nat) (ht : t ≤ 100) (hu : u ≤ 100) : ((nameS t).toList == (nameS u).toList) = decide (t = u) := by
  have h := hasS_eq (some t) u hu (fun v hv => by cases hv; exact ht)
  rw [hasS] at h
  rw [h]
  simp

/-- Must an event come ahead of a later one by one of the first reasons? -/
def strB (ta tb : Nat) (xa xb : Stp) : Bool :=
  decide (ta = tb) || decide (xa.kind = 6 ∧ xa.which = tb) || (decide (xb.kind = 7) && (decide (xb.which = ta) || decide (xa.kind = 6 ∧ xa.which = xb.which)))
def strE (a b : Ev) : Bool := strB a.thread.toNat b.thread.toNat (stpOf a.txt) (stpOf b.txt)

attribute [local go_sem] beq_self_eq_true
end Go.Proofs.YtdfndcbakcmgiabDoor
namespace Go.Proofs.YtdfndcbakcmgiabDoor
open Go.RowKit

/-- One mark: i, if it leads to j or to a marked event between. -/
def markL (log : List Ev) (j i k : Nat) (m : List Bool) : List Bool :=
  if k ≤ j then markL log j i (k + 1) (if (k = j ∨ m[k]?.getD false = true) ∧ (log[i]?.bind fun a => log[k]?.map fun b => strE a b).getD false = true then m.set i true else m) else m
termination_by j + 1 - k
def marksL (log : List Ev) (j : Nat) : Nat → List Bool → List Bool
  | 0, m => m
  | c + 1, m => marksL log j c (markL log j c (c + 1) m)
/-- Which events must come ahead of j. -/
def aheadR (log : List Ev) (j : Nat) : List Bool := marksL log j j (List.replicate log.length false)

theorem madeB (n : Nat) : (madeCells (Value.bool false).cells (n * 1)).toList = (List.replicate n false).map Value.bool := by
  apply List.ext_getElem?
  intro i
  by_cases h : i < n
  · simp [madeCells, Value.cells, h]
    rw [Nat.mod_one]; rfl
  · simp [madeCells, Value.cells, h]

end Go.Proofs.YtdfndcbakcmgiabDoor
namespace Go.Proofs.YtdfndcbakcmgiabDoor
open Go.RowKit

/-- What Before answers of a world. -/
def befW (W : Wd) (i j : Int) : Bool × Int :=
  if i < 0 ∨ j < 0 ∨ (W.log.length : Int) ≤ i ∨ (W.log.length : Int) ≤ j then (false, 6) else ((aheadR W.log j.toNat)[i.toNat]?.getD false, 0)
def befV (s sch : ByteArray) (i j : Int) : Bool × Int :=
  if (ckP s).1 ≠ 0 then (false, (ckP s).1)
  else match toLoop sch (beginW (thLoop s 0 0 [])) 0 with
    | some W => befW W i j
    | none => (false, 5)

theorem markL_len (log : List Ev) (j i : Nat) : ∀ (d k : Nat) (m : List Bool), j + 1 - k = d → (markL log j i k m).length = m.length := by
  intro d
  induction d with
  | zero => intro k m hd; rw [markL, if_neg (by omega)]
  | succ d ih =>
    intro k m hd
    rw [markL, if_pos (by omega), ih (k + 1) _ (by omega)]
    split
    · simp
    · rfl
theorem marksL_len (log : List Ev) (j : Nat) : ∀ (c : Nat) (m : List Bool), (marksL log j c m).length = m.length
  | 0, m => rfl
  | c + 1, m => by rw [marksL, marksL_len log j c, markL_len log j c _ _ _ rfl]
theorem aheadR_len (log : List Ev) (j : Nat) : (aheadR log j).length = log.length := by rw [aheadR, marksL_len]; simp

end Go.Proofs.YtdfndcbakcmgiabDoor
