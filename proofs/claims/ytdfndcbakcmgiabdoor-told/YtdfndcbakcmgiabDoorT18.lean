import Derived.Test.YtdfndcbakcmgiabDoorT16
import Derived.Laws.CopyOwn
namespace Go.Proofs.YtdfndcbakcmgiabDoor
open Go.RowKit

end Go.Proofs.YtdfndcbakcmgiabDoor
namespace Go.Proofs.YtdfndcbakcmgiabDoor
open Go.RowKit

def mkI (l c : Value) : Sem Value := Instr.makeSlice 22 l c
theorem mkI_fold (l c : Value) : Instr.makeSlice 22 l c = mkI l c := rfl
attribute [local go_sem ↓] mkI_fold
def intZ (l : List Int) : List Value := l.map fun x => Value.int .i64 x
theorem IntsAt.nil (w : World) (a : Option Addr) : IntsAt w a [] := fun k x h => by simp at h
theorem intsAt_row {w : World} {B g c : Nat} {l : List Int} (h : w.ownsRow B 3 1 (.slice (some ⟨g, 0, none⟩) l.length c) l.length (intZ l)) : IntsAt w (some ⟨g, 0, none⟩) l := fun k x hx => by
  have hk := (List.getElem?_eq_some_iff.1 hx).1
  refine ⟨g, 0, rfl, ?_⟩
  rw [Nat.zero_add, h.cellAt k (by omega)]
  simp [intZ, hx]
theorem IntsAt.take {w : World} {a : Option Addr} {l : List Int} (h : IntsAt w a l) (n : Nat) : IntsAt w a (l.take n) := fun k x hx => by
  rw [List.getElem?_take] at hx
  split at hx
  · exact h k x hx
  · cases hx

theorem madeI (n : Nat) : (madeCells (Value.int .i64 0).cells (n * 1)).toList = List.replicate n (Value.int .i64 0) := by
  apply List.ext_getElem?
  intro i
  by_cases h : i < n
  · simp [madeCells, Value.cells, h]
    rw [Nat.mod_one]; rfl
  · simp [madeCells, Value.cells, h]

theorem infoI1 : (Tryd.prog.info? 3).map (·.size) = some 1 := by
  obtain ⟨i, h1, _, h2, _⟩ := info_split infoInt
  rw [h1]; simp [h2]
theorem intZ_one (l : List Int) : ∀ v ∈ intZ l, v.oneCell' = true := by
  intro v hv
  simp only [intZ, List.mem_map] at hv
  obtain ⟨x, _, rfl⟩ := hv
  rfl
/-- A list of numbers is copied to the head of a row. -/
theorem copyI (w0 w : World) (B g dLen : Nat) (hB : Below B w0 w) (hBg : B ≤ g) (cur : List Value) (hg : w.heap[g]? = some (.cells cur.toArray 3 (0, 0))) (a : Option Addr) (ca : Nat) (ev : List Int) (ha : IntsAt w a ev) (hd : ev.length ≤ dLen) (hc : ev.length ≤ cur.length) :
    ∃ wc, (Builtin.copy_ #[22, 22] 3 #[.slice (some ⟨g, 0, none⟩) dLen dLen, .slice a ev.length ca]).run Tryd.prog w = .ok (goInt ev.length) wc ∧ wc.heap[g]? = some (.cells (intZ ev ++ cur.drop ev.length).toArray 3 (0, 0)) ∧ Below B w0 wc := by
  have hlz : (intZ ev).length = ev.length := by simp [intZ]
  by_cases h0 : ev.length = 0
  · obtain rfl : ev = [] := List.eq_nil_of_length_eq_zero h0
    exact ⟨w, run_copy_none w _ _ _ 3 _ _ _ _ _ _ Tryd.underlying22 infoI1 (by simp), by simpa [intZ] using hg, hB⟩
  · obtain ⟨x, hx⟩ := get_some ev 0 (by omega)
    obtain ⟨g2, o2, rfl, _⟩ := ha 0 x hx
    have h := run_copy_row (P := Tryd.prog) w 22 22 3 3 g 0 dLen dLen ⟨g2, o2, none⟩ ev.length ca cur.toArray 3 (intZ ev) Tryd.underlying22 infoI1 hg (by rw [hlz]; exact (Nat.min_eq_left hd).symm) (fun j v hv => by
      simp only [intZ, List.getElem?_map, Option.map_eq_some_iff] at hv
      obtain ⟨y, hy, rfl⟩ := hv
      obtain ⟨g3, o3, e3, c3⟩ := ha j y hy
      simp only [Option.some.injEq, Addr.mk.injEq, and_true] at e3
      obtain ⟨rfl, rfl⟩ := e3
      have hadd : (⟨g2, o2, none⟩ : Addr).add j = ⟨g2, o2 + j, none⟩ := by unfold Addr.add; split <;> simp_all
      rw [hadd]; exact c3) (by simpa [hlz] using hc) (intZ_one ev)
    rw [hlz] at h
    refine ⟨_, h, ?_, below_setRow hB hBg _⟩
    have := setRow_heap w g _ (List.take 0 cur.toArray.toList ++ intZ ev ++ List.drop (0 + ev.length) cur.toArray.toList).toArray 3 _ hg
    simpa using this

end Go.Proofs.YtdfndcbakcmgiabDoor
namespace Go.Proofs.YtdfndcbakcmgiabDoor
open Go.RowKit

/-! Close: the program's answer and the reference's are the same list. -/
theorem listB_sub {a b : List Bool} (h1 : Sub a b) (h2 : Sub b a) (n : Nat) : listB a n = listB b n := by
  unfold listB
  apply List.filter_congr
  intro x _
  rw [Bool.eq_iff_iff, getD_true, getD_true]
  exact ⟨h1 x, h2 x⟩
theorem midS_unique {log : List Ev} {m0 a b : List Bool} (ha : MidS log m0 a) (ca : ClosedS log a) (hb : MidS log m0 b) (cb : ClosedS log b) (n : Nat) : listB a n = listB b n :=
  listB_sub (ha.least b cb hb.sub) (hb.least a ca ha.sub) n
theorem mark_sub {n k : Nat} {l : List Int} (h : inR n l) (hk : n ≤ k) : Sub (markE n l) (markE k l) ∧ Sub (markE k l) (markE n l) := by
  constructor
  · intro x hx
    obtain ⟨h1, h2⟩ := (markE_iff n l x).1 hx
    exact (markE_iff k l x).2 ⟨by omega, h2⟩
  · intro x hx
    obtain ⟨_, y, hy, e⟩ := (markE_iff k l x).1 hx
    have := h y hy
    exact (markE_iff n l x).2 ⟨by omega, y, hy, e⟩
theorem Mid.toS {log : List Ev} {l : List Int} {m : List Bool} (h : Mid log (markE log.length l) m) (hin : inR log.length l) (h60 : log.length ≤ 60) : MidS log (markE 60 l) m := by
  obtain ⟨h1, h2⟩ := mark_sub hin h60
  exact ⟨h2.trans h.sub, fun M hM hs => h.least M hM (h1.trans hs)⟩

/-- There is one list that is told of the least closed set. -/
theorem closeL_ex (log : List Ev) (ev : List Int) : ∃ L : List Nat, L.length ≤ log.length ∧ ∀ m, MidS log (markE 60 ev) m → ClosedS log m → listB m log.length = L := by
  by_cases h : ∃ m, MidS log (markE 60 ev) m ∧ ClosedS log m
  · obtain ⟨m0, h1, h2⟩ := h
    exact ⟨listB m0 log.length, listB_len _ _, fun m h3 h4 => midS_unique h3 h4 h1 h2 _⟩
  · exact ⟨[], by simp, fun m h1 h2 => absurd ⟨m, h1, h2⟩ h⟩

theorem row_slice {w : World} {B n : Nat} {v : Value} {xs : List Value} (h : w.ownsRow B 3 1 v n xs) : ∃ a c, v = .slice a n c := by
  rcases h.2 with ⟨rfl, rfl⟩ | ⟨g, cap, _, rfl, _⟩
  · exact ⟨none, 0, rfl⟩
  · exact ⟨_, cap, rfl⟩
/-- One answer of Close. -/
def ClP (L : List Nat) (x : Int) (w : World) (e : Ending) (w' : World) : Prop :=
  ∃ a c, e = .returned (.tuple #[.slice a L.length c, .int .i64 x]) ∧ Below w.heap.size w w' ∧ w'.ownsRow w.heap.size 3 1 (.slice a L.length c) L.length (intV L) ∧ (x ≠ 0 → a = none)
theorem clP_nil {x : Int} {w w' : World} {e : Ending} (he : e = .returned (.tuple #[.slice none 0 0, .int .i64 x])) (hb : Below w.heap.size w w') : ClP [] x w e w' :=
  ⟨none, 0, he, hb, World.ownsRow_nil _ _ _ _, fun _ => rfl⟩

end Go.Proofs.YtdfndcbakcmgiabDoor
namespace Go.Proofs.YtdfndcbakcmgiabDoor
open Go.RowKit

theorem grownBy_refl (w : World) (r : Option Nat) : w.grownBy w r := ⟨rfl, rfl, rfl, Nat.le_refl _, fun _ _ _ => rfl⟩
theorem grownBy_setCell {X w : World} {g : Nat} (h : X.grownBy w (some g)) (i : Nat) (u : Value) : X.grownBy (w.setCell ⟨g, i, none⟩ u) (some g) := by
  have hb := (Below.refl 0 w).setCell (p := ⟨g, i, none⟩) (Nat.zero_le _) u
  exact ⟨hb.os.trans h.os, hb.tape.trans h.tape, hb.output.trans h.output, Nat.le_trans h.size hb.size, fun k hk hne => (heap_setCell_other _ _ _ _ (by simpa using hne)).trans (h.block k hk hne)⟩
theorem IntsAt.grown {X w : World} {r : Option Nat} {a : Option Addr} {l : List Int} (h : IntsAt X a l) (hg : X.grownBy w r) (hne : ∀ p, a = some p → some p.block ≠ r) : IntsAt w a l := fun k x hx => by
  obtain ⟨g, o, rfl, hc⟩ := h k x hx
  refine ⟨g, o, rfl, ?_⟩
  rw [World.cell?_of_block (w := X) (a := ⟨g, o + k, none⟩) (hg.block g (World.block_lt_of_cell? X _ hc) (hne _ rfl))]
  exact hc
theorem intsAt_rowV {w : World} {B n c : Nat} {a : Option Addr} {L : List Nat} (hn : n = L.length) (h : w.ownsRow B 3 1 (.slice a n c) n (intV L)) : IntsAt w a (L.map fun (x : Nat) => (x : Int)) := fun k x hx => by
  subst hn
  rcases h.2 with ⟨h1, h2⟩ | ⟨g, cap, cur, h1, _⟩
  · have hk := (List.getElem?_eq_some_iff.1 hx).1
    simp at hk; omega
  · simp only [Value.slice.injEq] at h1
    obtain ⟨rfl, _, rfl⟩ := h1
    have hk : k < L.length := by have := (List.getElem?_eq_some_iff.1 hx).1; simpa using this
    refine ⟨g, 0, rfl, ?_⟩
    rw [Nat.zero_add, h.cellAt k (by omega)]
    simp only [List.getElem?_map, Option.map_eq_some_iff] at hx
    obtain ⟨y, hy, rfl⟩ := hx
    simp [intV, hy]
theorem own_block {w : World} {B n c : Nat} {a : Option Addr} {xs : List Value} (h : w.ownsRow B 3 1 (.slice a n c) n xs) : ∀ p, a = some p → B ≤ p.block ∧ p.block < w.heap.size := fun p hp => by
  subst hp
  exact h.lt p.block rfl

end Go.Proofs.YtdfndcbakcmgiabDoor
