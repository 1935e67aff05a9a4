import Derived.Test.YtfacehklndapgaaE20
namespace Go.Proofs.Ytfacehklndapgaa
open Go.RowKit

theorem thCells_get (l : List Th) (j : Nat) (x : Th) (h : l[j]? = some x) :
    (l.flatMap thCells)[j * 4]? = some (.int .i64 x.state) ∧ (l.flatMap thCells)[j * 4 + 1]? = some (.int .i64 x.place) ∧ (l.flatMap thCells)[j * 4 + 2]? = some (.string x.holds) ∧ (l.flatMap thCells)[j * 4 + 3]? = some (.int .i64 x.waits) := by
  induction l generalizing j with
  | nil => simp at h
  | cons a l ih =>
    cases j with
    | zero => simp at h; subst h; simp [thCells]
    | succ j =>
      have := ih j (by simpa using h)
      have e : (j + 1) * 4 = j * 4 + 4 := by omega
      rw [e]
      simpa [thCells] using this

/-- What is read of a list of threads. -/
def ThsIn (w : World) (a : Option Addr) (l : List Th) : Prop := ∀ j x, l[j]? = some x → ∃ g, a = some ⟨g, 0, none⟩ ∧ w.cell? ⟨g, j * 4, none⟩ = some (.int .i64 x.state) ∧ w.cell? ⟨g, j * 4 + 1, none⟩ = some (.int .i64 x.place) ∧ w.cell? ⟨g, j * 4 + 2, none⟩ = some (.string x.holds) ∧ w.cell? ⟨g, j * 4 + 3, none⟩ = some (.int .i64 x.waits)
theorem ThsIn.below {w w' : World} {a : Option Addr} {l : List Th} (h : ThsIn w a l) (hb : Below w.heap.size w w') : ThsIn w' a l := fun j x hx => by
  obtain ⟨g, e, c0, c1, c2, c3⟩ := h j x hx
  exact ⟨g, e, cell_later hb c0, cell_later hb c1, cell_later hb c2, cell_later hb c3⟩
theorem ThsIn.nil (w : World) (a : Option Addr) : ThsIn w a [] := fun j x h => by simp at h
theorem thsIn_of {w : World} {B g cap : Nat} {l : List Th} (h : w.ownsRow B 56 4 (.slice (some ⟨g, 0, none⟩) l.length cap) l.length (l.flatMap thCells)) : ThsIn w (some ⟨g, 0, none⟩) l := fun j x hx => by
  have hj : j < l.length := (List.getElem?_eq_some_iff.1 hx).1
  obtain ⟨c0, c1, c2, c3⟩ := thCells_get l j x hx
  exact ⟨g, rfl, by rw [h.cellAt _ (by omega)]; exact c0, by rw [h.cellAt _ (by omega)]; exact c1, by rw [h.cellAt _ (by omega)]; exact c2, by rw [h.cellAt _ (by omega)]; exact c3⟩

set_option maxRecDepth 100000 in
set_option maxHeartbeats 4000000 in
theorem sameViews_any (l : List Th) (hl5 : l.length ≤ 5) (fl : ByteArray) (a b : Option Addr) (ca cb : Nat) (w : World) (hA : ThsIn w a l) (hB0 : ThsIn w b l) :
    Calls Try.prog 20 #[.agg #[.slice a l.length ca, .string fl], .agg #[.slice b l.length cb, .string fl]] w fun e w' => e = .returned (.bool true) ∧ Below w.heap.size w w' := by
  go_enter Try.func20, Try.ntmps20
  go_wp2
  go_loopw [5] (fun i wr => ∃ t : Nat, t ≤ l.length ∧ i = .int .i64 t ∧ wr.cell? ⟨w.heap.size, 0, none⟩ = some (.slice a l.length ca) ∧ wr.cell? ⟨w.heap.size + 1, 0, none⟩ = some (.slice b l.length cb) ∧ Below w.heap.size w wr) (fun i _ => l.length - (intOf i).toNat)
  case atStart =>
    exact ⟨0, by omega, rfl, cellB (heap_alloc2_old _ _ _) rfl, cellB (heap_alloc2_new _ _ _) rfl, (two_new (Below.refl _ _)).2.2.1⟩
  case round =>
    obtain ⟨t, ht, rfl, fA, fB, hB⟩ := hrel
    by_cases htn : t < l.length
    · obtain ⟨x, hx⟩ : ∃ x, l[t]? = some x := ⟨l[t], by simp [htn]⟩
      obtain ⟨g, hga, c0, c1, c2, c3⟩ := (hA.below hB) t x hx
      obtain ⟨g', hgb, d0, d1, d2, d3⟩ := (hB0.below hB) t x hx
      subst hga hgb
      have t0 : (0 : Int) ≤ (t : Int) := by omega
      have tl : (t : Int) < (l.length : Int) := by omega
      have lg := World.block_lt_of_cell? _ _ c0
      have lg' := World.block_lt_of_cell? _ _ d0
      have lA := World.block_lt_of_cell? _ _ fA
      have lB := World.block_lt_of_cell? _ _ fB
      simp only at lg lg' lA lB
      obtain ⟨st, pl, hs, wt⟩ := x
      clear hx
      go_wp2
      go_roundw
      case rel =>
        have hb2 := (two_new (Below.refl ((wr.alloc (.cells #[.int .i64 st, .int .i64 pl, .string hs, .int .i64 wt] 56)).alloc (.cells #[.int .i64 st, .int .i64 pl, .string hs, .int .i64 wt] 56)).heap.size ((wr.alloc (.cells #[.int .i64 st, .int .i64 pl, .string hs, .int .i64 wt] 56)).alloc (.cells #[.int .i64 st, .int .i64 pl, .string hs, .int .i64 wt] 56)))).2.2.1
        exact ⟨t + 1, by omega, rfl, cell_later hb2 fA, cell_later hb2 fB, hB.trans (hb2.mono hB.size)⟩
      case measure => simp [intOf]; omega
    · have tl : ¬ (t : Int) < (l.length : Int) := by omega
      go_wp2
      go_ret
      exact ⟨rfl, hB⟩
end Go.Proofs.Ytfacehklndapgaa
