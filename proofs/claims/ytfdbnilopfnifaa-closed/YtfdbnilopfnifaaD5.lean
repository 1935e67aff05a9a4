import Derived.Test.YtfdbnilopfnifaaD3
import Derived.Deep.AppendLies
namespace Go.Proofs.Ytfdbnilopfnifaa
open Go.RowKit

/-- The family with the sixth cell of the struct apart from the log's own value. -/
def famX (p : Nat) (x : Value) (W : Wd) (v : Six) (inner : List Value) : List RowD :=
  ⟨85, 1, .slice (some ⟨p, 0, none⟩) 6 6, 6, [v.P, v.B, v.L, v.H, v.S, x]⟩ ::
  ⟨4, 1, v.B, W.born.length, W.born.map Value.bool⟩ ::
  ⟨3, 1, v.L, W.place.length, placeCells W.place⟩ ::
  ⟨9, 1, v.H, W.has.length, hasCells W.has⟩ ::
  ⟨4, 1, v.S, W.set.length, W.set.map Value.bool⟩ ::
  ⟨128, 4, v.G, W.log.length, W.log.flatMap evCells⟩ ::
  ⟨76, 1, v.P, W.prog.length, inner⟩ :: rowsS W.prog inner
theorem famX_famW (p : Nat) (W : Wd) (v : Six) (inner : List Value) : famX p v.G W v inner = famW p W v inner := rfl

/-- What is known of the values and the blocks. -/
structure Forms (W : Wd) (v : Six) (gP cP gB cB gL cL gH cH gS cS : Nat) : Prop where
  eP : v.P = .slice (some ⟨gP, 0, none⟩) W.prog.length cP
  eB : v.B = .slice (some ⟨gB, 0, none⟩) W.born.length cB
  eL : v.L = .slice (some ⟨gL, 0, none⟩) W.place.length cL
  eH : v.H = .slice (some ⟨gH, 0, none⟩) W.has.length cH
  eS : v.S = .slice (some ⟨gS, 0, none⟩) W.set.length cS
theorem Fams.forms {w : World} {B p : Nat} {x : Value} {W : Wd} {v : Six} {inner : List Value} (hf : Fams w B (famX p x W v inner)) (ok : W.Ok) : ∃ gP cP gB cB gL cL gH cH gS cS, Forms W v gP cP gB cB gL cL gH cH gS cS := by
  have o1 := hf.own (r := ⟨4, 1, v.B, W.born.length, W.born.map Value.bool⟩) (by simp [famX])
  have o2 := hf.own (r := ⟨3, 1, v.L, W.place.length, placeCells W.place⟩) (by simp [famX])
  have o3 := hf.own (r := ⟨9, 1, v.H, W.has.length, hasCells W.has⟩) (by simp [famX])
  have o4 := hf.own (r := ⟨4, 1, v.S, W.set.length, W.set.map Value.bool⟩) (by simp [famX])
  have o6 := hf.own (r := ⟨76, 1, v.P, W.prog.length, inner⟩) (by simp [famX])
  simp only at o1 o2 o3 o4 o6
  obtain ⟨gB, cB, eB, _⟩ := ownsRow_form o1 (by have := ok.nb; have := ok.np; omega)
  obtain ⟨gL, cL, eL, _⟩ := ownsRow_form o2 (by have := ok.nl; have := ok.np; omega)
  obtain ⟨gH, cH, eH, _⟩ := ownsRow_form o3 (by have := ok.nh; omega)
  obtain ⟨gS, cS, eS, _⟩ := ownsRow_form o4 (by have := ok.ns; omega)
  obtain ⟨gP, cP, eP, _⟩ := ownsRow_form o6 ok.np
  exact ⟨gP, cP, gB, cB, gL, cL, gH, cH, gS, cS, eP, eB, eL, eH, eS⟩

/-- The cells, as they are read and may be written, in a world in which the family stands. -/
structure XIn (w : World) (p : Nat) (x : Value) (W : Wd) (gP cP gB cB gL cL gH cH gS cS : Nat) : Prop where
  fP : w.cell? ⟨p, 0, none⟩ = some (.slice (some ⟨gP, 0, none⟩) W.prog.length cP)
  fB : w.cell? ⟨p, 1, none⟩ = some (.slice (some ⟨gB, 0, none⟩) W.born.length cB)
  fL : w.cell? ⟨p, 2, none⟩ = some (.slice (some ⟨gL, 0, none⟩) W.place.length cL)
  fH : w.cell? ⟨p, 3, none⟩ = some (.slice (some ⟨gH, 0, none⟩) W.has.length cH)
  fS : w.cell? ⟨p, 4, none⟩ = some (.slice (some ⟨gS, 0, none⟩) W.set.length cS)
  fG : w.cell? ⟨p, 5, none⟩ = some x
  cB' : ∀ j y, W.born[j]? = some y → w.cell? ⟨gB, j, none⟩ = some (.bool y)
  cL' : ∀ (j : Nat) (y : Nat), W.place[j]? = some y → w.cell? ⟨gL, j, none⟩ = some (.int .i64 (y : Int))
  cH' : ∀ j y, W.has[j]? = some y → w.cell? ⟨gH, j, none⟩ = some (.string (hasS y))
  cS' : ∀ j y, W.set[j]? = some y → w.cell? ⟨gS, j, none⟩ = some (.bool y)
  cP' : ∀ t l, W.prog[t]? = some l → ∃ a c, w.cell? ⟨gP, t, none⟩ = some (.slice a l.length c) ∧ (l ≠ [] → ∃ g, a = some ⟨g, 0, none⟩ ∧ ∀ j y, l[j]? = some y → w.cell? ⟨g, j, none⟩ = some (.string y))
  zp : ∀ j, w.frozen? ⟨p, j, none⟩ = false
  zB : ∀ j, w.frozen? ⟨gB, j, none⟩ = false
  zL : ∀ j, w.frozen? ⟨gL, j, none⟩ = false
  zH : ∀ j, w.frozen? ⟨gH, j, none⟩ = false
  zS : ∀ j, w.frozen? ⟨gS, j, none⟩ = false
  dLp : gL ≠ p
  dHp : gH ≠ p
  dBp : gB ≠ p
  dSp : gS ≠ p
  dPp : gP ≠ p
  dHL : gH ≠ gL
  dBL : gB ≠ gL
  dSL : gS ≠ gL
  dPL : gP ≠ gL

theorem apart_of {f : List RowD} (h : f.Pairwise Apart) (i j : Nat) (a b : RowD) (hij : i < j) (hi : f[i]? = some a) (hj : f[j]? = some b) : Apart a b := by
  have := (List.pairwise_iff_getElem.1 h) i j (List.getElem?_eq_some_iff.1 hi).1 (List.getElem?_eq_some_iff.1 hj).1 hij
  rw [(List.getElem?_eq_some_iff.1 hi).2, (List.getElem?_eq_some_iff.1 hj).2] at this
  exact this

theorem Fams.xIn {w : World} {B p : Nat} {x : Value} {W : Wd} {v : Six} {inner : List Value} (hf : Fams w B (famX p x W v inner)) (hl : inner.length = W.prog.length) (ok : W.Ok)
    {gP cP gB cB gL cL gH cH gS cS : Nat} (F : Forms W v gP cP gB cB gL cL gH cH gS cS) : XIn w p x W gP cP gB cB gL cL gH cH gS cS := by
  have o0 := hf.own (r := ⟨85, 1, .slice (some ⟨p, 0, none⟩) 6 6, 6, [v.P, v.B, v.L, v.H, v.S, x]⟩) (by simp [famX])
  have o1 := hf.own (r := ⟨4, 1, v.B, W.born.length, W.born.map Value.bool⟩) (by simp [famX])
  have o2 := hf.own (r := ⟨3, 1, v.L, W.place.length, placeCells W.place⟩) (by simp [famX])
  have o3 := hf.own (r := ⟨9, 1, v.H, W.has.length, hasCells W.has⟩) (by simp [famX])
  have o4 := hf.own (r := ⟨4, 1, v.S, W.set.length, W.set.map Value.bool⟩) (by simp [famX])
  have o6 := hf.own (r := ⟨76, 1, v.P, W.prog.length, inner⟩) (by simp [famX])
  simp only at o0 o1 o2 o3 o4 o6
  have pw := hf.2
  have ap := fun i j a b hij hi hj => apart_of (f := famX p x W v inner) pw i j a b hij hi hj
  have a02 := ap 0 2 _ _ (by omega) rfl rfl
  have a03 := ap 0 3 _ _ (by omega) rfl rfl
  have a01 := ap 0 1 _ _ (by omega) rfl rfl
  have a04 := ap 0 4 _ _ (by omega) rfl rfl
  have a06 := ap 0 6 _ _ (by omega) rfl rfl
  have a23 := ap 2 3 _ _ (by omega) rfl rfl
  have a12 := ap 1 2 _ _ (by omega) rfl rfl
  have a24 := ap 2 4 _ _ (by omega) rfl rfl
  have a26 := ap 2 6 _ _ (by omega) rfl rfl
  simp only [Apart, F.eP, F.eB, F.eL, F.eH, F.eS, Value.ownBlock, reduceCtorEq, or_false, ne_eq, Option.some.injEq] at a02 a03 a01 a04 a06 a23 a12 a24 a26
  have kB := (ownsRow_form o1 (by have := ok.nb; have := ok.np; omega))
  have kL := (ownsRow_form o2 (by have := ok.nl; have := ok.np; omega))
  have kH := (ownsRow_form o3 (by have := ok.nh; omega))
  have kS := (ownsRow_form o4 (by have := ok.ns; omega))
  have kP := (ownsRow_form o6 ok.np)
  rw [F.eB] at kB o1
  rw [F.eL] at kL o2
  rw [F.eH] at kH o3
  rw [F.eS] at kS o4
  rw [F.eP] at kP
  simp only [Value.slice.injEq, Option.some.injEq, Addr.mk.injEq, and_true, true_and] at kB kL kH kS kP
  obtain ⟨_, _, ⟨rfl, rfl⟩, _, _, kB⟩ := kB
  obtain ⟨_, _, ⟨rfl, rfl⟩, _, _, kL⟩ := kL
  obtain ⟨_, _, ⟨rfl, rfl⟩, _, _, kH⟩ := kH
  obtain ⟨_, _, ⟨rfl, rfl⟩, _, _, kS⟩ := kS
  obtain ⟨_, _, ⟨rfl, rfl⟩, _, _, kP⟩ := kP
  have c := fun j y (hx : [v.P, v.B, v.L, v.H, v.S, x][j]? = some y) => (o0.cellAt j (by have := (List.getElem?_eq_some_iff.1 hx).1; simpa using this)).trans hx
  exact {
    fP := by rw [c 0 _ rfl, F.eP]
    fB := by rw [c 1 _ rfl, F.eB]
    fL := by rw [c 2 _ rfl, F.eL]
    fH := by rw [c 3 _ rfl, F.eH]
    fS := by rw [c 4 _ rfl, F.eS]
    fG := c 5 _ rfl
    cB' := fun j y hx => kB j _ (by simp [hx])
    cL' := fun j y hx => kL j _ (by simp [placeCells, hx])
    cH' := fun j y hx => kH j _ (by simp [hasCells, hx])
    cS' := fun j y hx => kS j _ (by simp [hx])
    cP' := fun t l hx => by
      obtain ⟨u, h1, h2⟩ := rowsS_mem W.prog inner t l hl hx
      have o7 := hf.own (r := ⟨9, 1, u, l.length, l.map Value.string⟩) (by simp [famX, h2])
      simp only at o7
      have hc := kP t u h1
      by_cases h0 : l.length = 0
      · rcases o7.2 with ⟨hv, _⟩ | ⟨g, cap, cur, hv, _⟩
        · exact ⟨none, 0, by rw [hc, hv, h0], fun h => absurd (List.length_eq_zero_iff.1 h0) h⟩
        · exact ⟨_, cap, by rw [hc, hv], fun h => absurd (List.length_eq_zero_iff.1 h0) h⟩
      · obtain ⟨g, cap, e, _, _, k⟩ := ownsRow_form o7 h0
        exact ⟨_, cap, by rw [hc, e], fun _ => ⟨g, rfl, fun j y hx => k j _ (by simp [hx])⟩⟩
    zp := fun j => o0.frozenAt j
    zB := fun j => o1.frozenAt j
    zL := fun j => o2.frozenAt j
    zH := fun j => o3.frozenAt j
    zS := fun j => o4.frozenAt j
    dLp := Ne.symm a02
    dHp := Ne.symm a03
    dBp := Ne.symm a01
    dSp := Ne.symm a04
    dPp := Ne.symm a06
    dHL := Ne.symm a23
    dBL := a12
    dSL := Ne.symm a24
    dPL := Ne.symm a26 }

/-- The log has grown by an event. -/
theorem Fams.logged {w w1 w2 : World} {B p : Nat} {x : Value} {W : Wd} {v : Six} {inner : List Value} (hf : Fams w B (famX p x W v inner)) (hb : Below w.heap.size w w1) (e : Ev) (g cap : Nat)
    (hown : w2.ownsRow B 128 4 (.slice (some ⟨g, 0, none⟩) (W.log.length + 1) cap) (W.log.length + 1) (W.log.flatMap evCells ++ evCells e)) (hg : w1.grownBy w2 v.G.ownBlock) (hat : v.G.ownBlock = some g ∨ g = w1.heap.size) :
    Fams w2 B (famX p x { W with log := W.log ++ [e] } { v with G := .slice (some ⟨g, 0, none⟩) (W.log.length + 1) cap } inner) := by
  have h1 := hf.below hb
  have hp : (famX p x W v inner).Perm (⟨128, 4, v.G, W.log.length, W.log.flatMap evCells⟩ :: ⟨85, 1, .slice (some ⟨p, 0, none⟩) 6 6, 6, [v.P, v.B, v.L, v.H, v.S, x]⟩ ::
      ⟨4, 1, v.B, W.born.length, W.born.map Value.bool⟩ :: ⟨3, 1, v.L, W.place.length, placeCells W.place⟩ :: ⟨9, 1, v.H, W.has.length, hasCells W.has⟩ :: ⟨4, 1, v.S, W.set.length, W.set.map Value.bool⟩ ::
      ⟨76, 1, v.P, W.prog.length, inner⟩ :: rowsS W.prog inner) := by
    exact List.perm_middle (l₁ := [_, _, _, _, _])
  have h2 := Fams.head (r' := ⟨128, 4, .slice (some ⟨g, 0, none⟩) (W.log.length + 1) cap, W.log.length + 1, W.log.flatMap evCells ++ evCells e⟩) (h1.perm hp) hg (by
    rcases hat with h | h
    · exact .inl h.symm
    · exact .inr ⟨g, rfl, by omega⟩) hown
  have h3 := h2.perm (List.perm_middle (l₁ := [_, _, _, _, _])).symm
  simpa [famX] using h3

/-- Cell j of the struct's block is written. -/
theorem Fams.putG {w : World} {B p : Nat} {x y : Value} {W : Wd} {v : Six} {inner : List Value} (hf : Fams w B (famX p x W v inner)) : Fams (w.setCell ⟨p, 5, none⟩ y) B (famX p y W v inner) := by
  have := Fams.store hf 5 y
  simpa [famX] using this

theorem swap2 {α : Type} (a b : α) (l : List α) : (a :: b :: l).Perm (b :: a :: l) := List.Perm.swap b a l
theorem perm1 (a b : RowD) (l : List RowD) : (a :: b :: l).Perm (b :: a :: l) := List.Perm.swap b a l
theorem perm2 (a b c : RowD) (l : List RowD) : (a :: b :: c :: l).Perm (c :: a :: b :: l) := List.perm_middle (l₁ := [a, b])
theorem perm3 (a b c d : RowD) (l : List RowD) : (a :: b :: c :: d :: l).Perm (d :: a :: b :: c :: l) := List.perm_middle (l₁ := [a, b, c])
theorem perm4 (a b c d e : RowD) (l : List RowD) : (a :: b :: c :: d :: e :: l).Perm (e :: a :: b :: c :: d :: l) := List.perm_middle (l₁ := [a, b, c, d])

theorem Fams.putB {w : World} {B p : Nat} {x : Value} {W : Wd} {v : Six} {inner : List Value} {g n cap : Nat} (hf : Fams w B (famX p x W v inner)) (hv : v.B = .slice (some ⟨g, 0, none⟩) n cap) (hn : n = W.born.length) (j : Nat) (b : Bool) :
    Fams (w.setCell ⟨g, j, none⟩ (.bool b)) B (famX p x { W with born := W.born.set j b } v inner) := by
  subst hn
  have h1 := hf.perm (perm1 _ _ _)
  rw [hv] at h1
  have h2 := (Fams.store h1 j (.bool b)).perm (perm1 _ _ _)
  simpa [famX, hv, List.map_set] using h2
theorem Fams.putL {w : World} {B p : Nat} {x : Value} {W : Wd} {v : Six} {inner : List Value} {g n cap : Nat} (hf : Fams w B (famX p x W v inner)) (hv : v.L = .slice (some ⟨g, 0, none⟩) n cap) (hn : n = W.place.length) (j : Nat) (b : Nat) (bi : Int) (hbi : bi = b) :
    Fams (w.setCell ⟨g, j, none⟩ (.int .i64 bi)) B (famX p x { W with place := W.place.set j b } v inner) := by
  subst hn hbi
  have h1 := hf.perm (perm2 _ _ _ _)
  rw [hv] at h1
  have h2 := (Fams.store h1 j (.int .i64 (b : Int))).perm (perm2 _ _ _ _).symm
  simpa [famX, hv, placeCells, List.map_set] using h2
theorem Fams.putH {w : World} {B p : Nat} {x : Value} {W : Wd} {v : Six} {inner : List Value} {g n cap : Nat} (hf : Fams w B (famX p x W v inner)) (hv : v.H = .slice (some ⟨g, 0, none⟩) n cap) (hn : n = W.has.length) (j : Nat) (b : Option Nat) (s : ByteArray) (hs : s = hasS b) :
    Fams (w.setCell ⟨g, j, none⟩ (.string s)) B (famX p x { W with has := W.has.set j b } v inner) := by
  subst hn hs
  have h1 := hf.perm (perm3 _ _ _ _ _)
  rw [hv] at h1
  have h2 := (Fams.store h1 j (.string (hasS b))).perm (perm3 _ _ _ _ _).symm
  simpa [famX, hv, hasCells, List.map_set] using h2
theorem Fams.putS {w : World} {B p : Nat} {x : Value} {W : Wd} {v : Six} {inner : List Value} {g n cap : Nat} (hf : Fams w B (famX p x W v inner)) (hv : v.S = .slice (some ⟨g, 0, none⟩) n cap) (hn : n = W.set.length) (j : Nat) (b : Bool) :
    Fams (w.setCell ⟨g, j, none⟩ (.bool b)) B (famX p x { W with set := W.set.set j b } v inner) := by
  subst hn
  have h1 := hf.perm (perm4 _ _ _ _ _ _)
  rw [hv] at h1
  have h2 := (Fams.store h1 j (.bool b)).perm (perm4 _ _ _ _ _ _).symm
  simpa [famX, hv, List.map_set] using h2
theorem Fams.drewN {w : World} {B : Nat} {f : List RowD} (h : Fams w B f) (n : Nat) : Fams (w.drewN n) B f := h.below (below_drewN w n)
/-- The log's block is none of the others. -/
theorem Fams.farG {w : World} {B p : Nat} {x : Value} {W : Wd} {v : Six} {inner : List Value} (hf : Fams w B (famX p x W v inner))
    {gP cP gB cB gL cL gH cH gS cS : Nat} (F : Forms W v gP cP gB cB gL cL gH cH gS cS) : some p ≠ v.G.ownBlock ∧ some gB ≠ v.G.ownBlock ∧ some gL ≠ v.G.ownBlock ∧ some gH ≠ v.G.ownBlock ∧ some gS ≠ v.G.ownBlock := by
  have ap := fun i j a b hij hi hj => apart_of (f := famX p x W v inner) hf.2 i j a b hij hi hj
  have a0 := ap 0 5 _ _ (by omega) rfl rfl
  have a1 := ap 1 5 _ _ (by omega) rfl rfl
  have a2 := ap 2 5 _ _ (by omega) rfl rfl
  have a3 := ap 3 5 _ _ (by omega) rfl rfl
  have a4 := ap 4 5 _ _ (by omega) rfl rfl
  simp only [Apart, F.eB, F.eL, F.eH, F.eS] at a0 a1 a2 a3 a4
  refine ⟨?_, ?_, ?_, ?_, ?_⟩
  · exact a0.resolve_right (by simp [Value.ownBlock])
  · exact a1.resolve_right (by simp [Value.ownBlock])
  · exact a2.resolve_right (by simp [Value.ownBlock])
  · exact a3.resolve_right (by simp [Value.ownBlock])
  · exact a4.resolve_right (by simp [Value.ownBlock])
/-- A cell that was there, behind a draw, a new block and an append to another row. -/
theorem cell_append {w w2 : World} {o : Obj} {row : Option Nat} {a : Addr} {u : Value} (hg : ((w.alloc o).drew).grownBy w2 row) (hc : w.cell? a = some u) (hne : some a.block ≠ row) : w2.cell? a = some u := by
  have hlt := World.block_lt_of_cell? w _ hc
  rw [hg.cell_far a (by show a.block < (w.heap.push o).size; simp; omega) hne]
  exact cell_later ((Below.refl _ _).alloc (Nat.le_refl _) _).drew hc
theorem frozen_append {w w2 : World} {o : Obj} {row : Option Nat} {a : Addr} {u : Value} (hg : ((w.alloc o).drew).grownBy w2 row) (hc : w.cell? a = some u) (hz : w.frozen? a = false) (hne : some a.block ≠ row) : w2.frozen? a = false := by
  have hlt := World.block_lt_of_cell? w _ hc
  rw [hg.frozen_far a (by show a.block < (w.heap.push o).size; simp; omega) hne]
  rw [(((Below.refl w.heap.size w).alloc (Nat.le_refl _) o).drew).frozen hlt]
  exact hz
theorem frozen_later {w wx : World} {a : Addr} {v : Value} (hb : Below w.heap.size w wx) (h : w.cell? a = some v) (hz : w.frozen? a = false) : wx.frozen? a = false :=
  (hb.frozen (World.block_lt_of_cell? _ _ h)).trans hz
end Go.Proofs.Ytfdbnilopfnifaa
