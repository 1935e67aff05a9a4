import Derived.Test.YtdfndcbakcmgiabDoorR4
namespace Go.Proofs.YtdfndcbakcmgiabDoor
open Go.RowKit

/-! The least closed set. -/
def Sub (a b : List Bool) : Prop := ∀ i : Nat, a[i]? = some true → b[i]? = some true
def ClosedS (log : List Ev) (m : List Bool) : Prop := ∀ j : Nat, m[j]? = some true → ClosedAt log m j
theorem Need.mono {log : List Ev} {m M : List Bool} {j i : Nat} (h : Need log m j i) (hs : Sub m M) : Need log M j i := by
  cases h with
  | ahead h1 h2 => exact .ahead h1 h2
  | flag b u h1 h2 h3 h4 => exact .flag b u h1 h2 h3 h4
  | give b a u k h1 h2 h3 h4 h5 h6 h7 h8 h9 => exact .give b a u k h1 h2 h3 h4 (hs k h5) h6 h7 h8 h9
/-- m lies between m0 and every closed set that has m0. -/
structure Mid (log : List Ev) (m0 m : List Bool) : Prop where
  len : m.length = log.length
  sub : Sub m0 m
  least : ∀ M, ClosedS log M → Sub m0 M → Sub m M
theorem Mid.start (log : List Ev) (m : List Bool) (h : m.length = log.length) : Mid log m m := ⟨h, fun _ h => h, fun _ _ h => h⟩
theorem Mid.add {log : List Ev} {m0 m : List Bool} (h : Mid log m0 m) {j i : Nat} (hj : m[j]? = some true) (hn : Need log m j i) : Mid log m0 (m.set i true) := by
  refine ⟨by simpa using h.len, fun x hx => ?_, fun M hM hs x hx => ?_⟩
  · rw [List.getElem?_set]
    have := h.sub x hx
    split
    · rename_i e
      subst e
      rw [if_pos (List.getElem?_eq_some_iff.1 this).1]
    · exact this
  · rw [List.getElem?_set] at hx
    have hsub := h.least M hM hs
    split at hx
    · rename_i e
      subst e
      exact hM j (hsub j hj) _ (hn.mono hsub)
    · exact hsub x hx
def cntF (m : List Bool) : Nat := (m.filter (fun b => !b)).length
theorem cntF_set : ∀ (m : List Bool) (i : Nat), m[i]? = some false → cntF (m.set i true) + 1 = cntF m
  | [], i, h => by simp at h
  | b :: m, 0, h => by simp at h; subst h; simp [cntF]
  | b :: m, i + 1, h => by
    have := cntF_set m i (by simpa using h)
    cases b <;> simp [cntF] at this ⊢ <;> omega
/-- The false cells of a row, as the memory has them. -/
def isF : Option Value → Bool
  | some (.bool false) => true
  | _ => false
def cntW (w : World) (g n : Nat) : Nat := ((List.range n).filter fun x => isF (w.cell? ⟨g, x, none⟩)).length
theorem cntW_eq (w : World) (g : Nat) (m : List Bool) (h : ∀ x b, m[x]? = some b → w.cell? ⟨g, x, none⟩ = some (.bool b)) : cntW w g m.length = cntF m := by
  unfold cntW cntF
  have e : (List.range m.length).filter (fun x => isF (w.cell? ⟨g, x, none⟩)) = (List.range m.length).filter (fun x => !(m[x]?.getD true)) := by
    apply List.filter_congr
    intro x hx
    have hx' : x < m.length := List.mem_range.1 hx
    rw [h x m[x] (by simp [hx'])]
    cases hb : m[x] <;> simp [isF, hx', hb]
  rw [e]
  clear e h
  induction m with
  | nil => rfl
  | cons b m ih =>
    rw [List.length_cons, List.range_succ_eq_map, List.filter_cons]
    cases b <;> simp [List.filter_map, Function.comp_def] <;> simpa using ih

end Go.Proofs.YtdfndcbakcmgiabDoor
namespace Go.Proofs.YtdfndcbakcmgiabDoor
open Go.RowKit
/-- A list of ints that was handed in, as it is read. -/
def IntsAt (w : World) (a : Option Addr) (l : List Int) : Prop := ∀ (k : Nat) (x : Int), l[k]? = some x → ∃ g o, a = some ⟨g, o, none⟩ ∧ w.cell? ⟨g, o + k, none⟩ = some (.int .i64 x)
theorem IntsAt.below {w w' : World} {a : Option Addr} {l : List Int} (h : IntsAt w a l) (hb : Below w.heap.size w w') : IntsAt w' a l := fun k x hx => by
  obtain ⟨g, o, e, c⟩ := h k x hx
  exact ⟨g, o, e, cell_later hb c⟩
def markE (n : Nat) (l : List Int) : List Bool := l.foldl (fun m x => m.set x.toNat true) (List.replicate n false)
theorem markE_snoc (n : Nat) (l : List Int) (x : Int) : markE n (l ++ [x]) = (markE n l).set x.toNat true := by simp [markE]
theorem markE_len (n : Nat) (l : List Int) : (markE n l).length = n := by
  unfold markE
  suffices h : ∀ m : List Bool, (l.foldl (fun m x => m.set x.toNat true) m).length = m.length by rw [h]; simp
  induction l with
  | nil => intro m; rfl
  | cons a l ih => intro m; simp only [List.foldl_cons]; rw [ih]; simp
/-- The numbers of the events of a set. -/
def listB (m : List Bool) (t : Nat) : List Nat := (List.range t).filter fun x => m[x]?.getD false
theorem listB_yes {m : List Bool} {t : Nat} (h : m[t]?.getD false = true) : listB m (t + 1) = listB m t ++ [t] := by simp [listB, List.range_succ, h]
theorem listB_no {m : List Bool} {t : Nat} (h : m[t]?.getD false = false) : listB m (t + 1) = listB m t := by simp [listB, List.range_succ, h]
theorem listB_len (m : List Bool) (t : Nat) : (listB m t).length ≤ t := by
  have := List.length_filter_le (fun x => m[x]?.getD false) (List.range t)
  simpa [listB] using this

def inR (n : Nat) (l : List Int) : Prop := ∀ x ∈ l, 0 ≤ x ∧ x < n

/-- There is one least closed set. -/
theorem mid_unique {log : List Ev} {m0 a b : List Bool} (ha : Mid log m0 a) (ca : ClosedS log a) (hb : Mid log m0 b) (cb : ClosedS log b) : a = b := by
  have h1 := ha.least b cb hb.sub
  have h2 := hb.least a ca ha.sub
  have hl : a.length = b.length := ha.len.trans hb.len.symm
  apply List.ext_getElem?
  intro i
  by_cases hi : i < a.length
  · obtain ⟨x, hx⟩ := get_some a i hi
    obtain ⟨y, hy⟩ := get_some b i (by omega)
    cases x with
    | true => rw [hx, h1 i hx]
    | false =>
      cases y with
      | false => rw [hx, hy]
      | true => have := h2 i hy; rw [hx] at this; cases this
  · rw [List.getElem?_eq_none (by omega), List.getElem?_eq_none (by omega)]
end Go.Proofs.YtdfndcbakcmgiabDoor
