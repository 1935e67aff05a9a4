import Derived.Test.YtdfndcbakcmgiaaD9
namespace Go.Proofs.Ytdfndcbakcmgiaa
open Go.RowKit
attribute [local go_sem ↓] Go.wp_at_zero Go.wp_at_succ

theorem cell_set4 {w : World} {q : Nat} {u0 u1 u2 u3 x : Value} {a : Addr} (hne : q ≠ a.block) (h : w.cell? a = some x) : ((((w.setCell ⟨q, 0, none⟩ u0).setCell ⟨q, 1, none⟩ u1).setCell ⟨q, 2, none⟩ u2).setCell ⟨q, 3, none⟩ u3).cell? a = some x :=
  cell_set_other hne (cell_set_other hne (cell_set_other hne (cell_set_other hne h)))
theorem set4_get {w : World} {q : Nat} {a0 a1 a2 a3 u0 u1 u2 u3 : Value} (c0 : w.cell? ⟨q, 0, none⟩ = some a0) (c1 : w.cell? ⟨q, 1, none⟩ = some a1) (c2 : w.cell? ⟨q, 2, none⟩ = some a2) (c3 : w.cell? ⟨q, 3, none⟩ = some a3) (z : w.frozen? ⟨q, 2, none⟩ = false) :
    ((((w.setCell ⟨q, 0, none⟩ u0).setCell ⟨q, 1, none⟩ u1).setCell ⟨q, 2, none⟩ u2).setCell ⟨q, 3, none⟩ u3).cell? ⟨q, 0, none⟩ = some u0 ∧
    ((((w.setCell ⟨q, 0, none⟩ u0).setCell ⟨q, 1, none⟩ u1).setCell ⟨q, 2, none⟩ u2).setCell ⟨q, 3, none⟩ u3).cell? ⟨q, 1, none⟩ = some u1 ∧
    ((((w.setCell ⟨q, 0, none⟩ u0).setCell ⟨q, 1, none⟩ u1).setCell ⟨q, 2, none⟩ u2).setCell ⟨q, 3, none⟩ u3).cell? ⟨q, 2, none⟩ = some u2 ∧
    ((((w.setCell ⟨q, 0, none⟩ u0).setCell ⟨q, 1, none⟩ u1).setCell ⟨q, 2, none⟩ u2).setCell ⟨q, 3, none⟩ u3).cell? ⟨q, 3, none⟩ = some u3 ∧
    ((((w.setCell ⟨q, 0, none⟩ u0).setCell ⟨q, 1, none⟩ u1).setCell ⟨q, 2, none⟩ u2).setCell ⟨q, 3, none⟩ u3).frozen? ⟨q, 2, none⟩ = false := by
  refine ⟨?_, ?_, ?_, ?_, ?_⟩ <;> simp [go_sem, c0, c1, c2, c3, z]
theorem new4_get (w : World) (u0 u1 u2 u3 : Value) (T : TypeId) :
    (w.alloc (.cells #[u0, u1, u2, u3] T)).cell? ⟨w.heap.size, 0, none⟩ = some u0 ∧ (w.alloc (.cells #[u0, u1, u2, u3] T)).cell? ⟨w.heap.size, 1, none⟩ = some u1 ∧ (w.alloc (.cells #[u0, u1, u2, u3] T)).cell? ⟨w.heap.size, 2, none⟩ = some u2 ∧
    (w.alloc (.cells #[u0, u1, u2, u3] T)).cell? ⟨w.heap.size, 3, none⟩ = some u3 ∧ (w.alloc (.cells #[u0, u1, u2, u3] T)).frozen? ⟨w.heap.size, 2, none⟩ = false := by
  have hn := heap_alloc_new w (.cells #[u0, u1, u2, u3] T)
  refine ⟨?_, ?_, ?_, ?_, ?_⟩
  · rw [cell_of_row _ _ _ _ _ _ hn]; rfl
  · rw [cell_of_row _ _ _ _ _ _ hn]; rfl
  · rw [cell_of_row _ _ _ _ _ _ hn]; rfl
  · rw [cell_of_row _ _ _ _ _ _ hn]; rfl
  · exact frozen_of_row _ _ _ _ _ hn
structure Th where
  state : Int
  place : Int
  holds : ByteArray
  waits : Int
def thCells (x : Th) : List Value := [.int .i64 x.state, .int .i64 x.place, .string x.holds, .int .i64 x.waits]
def thOf (W : Wd) (t : Nat) : Th := ⟨stateOf W t, W.place[t]?.getD 0, holdsOf W t, waitsOf W t⟩
def thsOf (W : Wd) (t : Nat) : List Th := (List.range t).map (thOf W)
def flagsLoop (set : List Bool) (k : Nat) (acc : ByteArray) : ByteArray :=
  if k < 6 then flagsLoop set (k + 1) (if set[k]?.getD false = true then acc ++ flagS.extract k (k + 1) else acc) else acc
termination_by 6 - k

theorem infoThread : (Try.prog.info? 64).map (fun i => (i.zero, i.size, i.bytes)) = some (some (.agg #[.int .i64 0, .int .i64 0, .string ⟨#[]⟩, .int .i64 0]), 4, 40) := by kernel_rfl

/-- The rows of a view that is being made: the variable, the threads, the result. -/
def famV (q r : Nat) (xs : List Value) (vT : Value) (l : List Th) : List RowD :=
  [⟨32, 1, .slice (some ⟨q, 0, none⟩) 2 2, 2, xs⟩, ⟨64, 4, vT, l.length, l.flatMap thCells⟩, ⟨32, 1, .slice (some ⟨r, 0, none⟩) 2 2, 2, [.slice none 0 0, .string ⟨#[]⟩]⟩]

theorem famV_start (w : World) : Fams ((w.alloc (.cells #[.slice none 0 0, .string ⟨#[]⟩] 32)).alloc (.cells #[.slice none 0 0, .string ⟨#[]⟩] 32)) w.heap.size
    (famV (w.heap.size + 1) w.heap.size [.slice none 0 0, .string ⟨#[]⟩] (.slice none 0 0) []) := by
  have h0 := (Fams.nil w w.heap.size).lit (Nat.le_refl _) 32 1 #[.slice none 0 0, .string ⟨#[]⟩] 2 (by unfold maxLen; omega) rfl
  have h1 := (h0.addNil 64 4).lit (by simp) 32 1 #[.slice none 0 0, .string ⟨#[]⟩] 2 (by unfold maxLen; omega) rfl
  simpa [famV] using h1

theorem famV_cell {w : World} {B q r : Nat} {x y vT : Value} {l : List Th} (hf : Fams w B (famV q r [x, y] vT l)) : w.cell? ⟨q, 0, none⟩ = some x ∧ w.cell? ⟨q, 1, none⟩ = some y ∧ (∀ j, w.frozen? ⟨q, j, none⟩ = false) ∧ q < w.heap.size ∧ B ≤ q := by
  have o := hf.own (r := ⟨32, 1, .slice (some ⟨q, 0, none⟩) 2 2, 2, [x, y]⟩) (by simp [famV])
  exact ⟨o.cellAt 0 (by show 0 < 2 * 1; omega), o.cellAt 1 (by show 1 < 2 * 1; omega), fun j => o.frozenAt j, (o.lt q rfl).2, (o.lt q rfl).1⟩
theorem Fams.setFar {w : World} {B : Nat} {f : List RowD} (hf : Fams w B f) {N q j : Nat} (hN : ∀ r ∈ f, ∀ k, r.v.ownBlock = some k → k < N) (hq : N ≤ q) (u : Value) : Fams (w.setCell ⟨q, j, none⟩ u) B f := by
  refine ⟨fun r hr => ?_, hf.2⟩
  refine World.ownsRow.kept (row := some q) (hf.1 r hr) ⟨rfl, rfl, rfl, by simp [World.setCell], fun k _ hk => Below.heap_setCell _ _ _ _ (fun e => hk (by rw [e]))⟩ ?_
  cases hk : r.v.ownBlock with
  | none => exact .inl rfl
  | some k => exact .inr (fun e => by simp only [Option.some.injEq] at e; have := hN r hr k hk; omega)
theorem Fams.below_all {w : World} {B : Nat} {f : List RowD} (hf : Fams w B f) : ∀ r ∈ f, ∀ k, r.v.ownBlock = some k → k < w.heap.size := fun r hr k hk => (World.ownsRow.lt (hf.1 r hr) k hk).2
theorem famV_res {w : World} {B q r : Nat} {xs : List Value} {vT : Value} {l : List Th} (hf : Fams w B (famV q r xs vT l)) : w.cell? ⟨r, 0, none⟩ = some (.slice none 0 0) ∧ w.cell? ⟨r, 1, none⟩ = some (.string ⟨#[]⟩) ∧ (∀ j, w.frozen? ⟨r, j, none⟩ = false) ∧ B ≤ r ∧ q ≠ r ∧
    ∀ u0 u1, ((w.setCell ⟨r, 0, none⟩ u0).setCell ⟨r, 1, none⟩ u1).ownsRow B 64 4 vT l.length (l.flatMap thCells) := by
  have o := hf.own (r := ⟨32, 1, .slice (some ⟨r, 0, none⟩) 2 2, 2, [.slice none 0 0, .string ⟨#[]⟩]⟩) (by simp [famV])
  have a02 := apart_of hf.2 0 2 _ _ (by omega) rfl rfl
  simp only [Apart, Value.ownBlock, ne_eq, Option.some.injEq, reduceCtorEq, or_false] at a02
  refine ⟨o.cellAt 0 (by show 0 < 2 * 1; omega), o.cellAt 1 (by show 1 < 2 * 1; omega), fun j => o.frozenAt j, (o.lt r rfl).1, a02, fun u0 u1 => ?_⟩
  have h1 := hf.perm (perm2 _ _ _ _)
  have h2 := Fams.store (Fams.store h1 0 u0) 1 u1
  exact h2.own (r := ⟨64, 4, vT, l.length, l.flatMap thCells⟩) (by simp)
theorem famV_far {w : World} {B q r : Nat} {xs : List Value} {vT : Value} {l : List Th} (hf : Fams w B (famV q r xs vT l)) : some q ≠ vT.ownBlock := by
  have := apart_of hf.2 0 1 _ _ (by omega) rfl rfl
  exact this.resolve_right (by simp [Value.ownBlock])
theorem famV_row {w : World} {B q r : Nat} {xs : List Value} {vT : Value} {l : List Th} (hf : Fams w B (famV q r xs vT l)) : w.ownsRow B 64 4 vT l.length (l.flatMap thCells) :=
  hf.own (r := ⟨64, 4, vT, l.length, l.flatMap thCells⟩) (by simp [famV])
theorem famV_app {w w2 : World} {B q r : Nat} {xs : List Value} {vT v' : Value} {l : List Th} {x : Th} {o : Obj} (hf : Fams w B (famV q r xs vT l)) (hown : w2.ownsRow B 64 4 v' (l.length + 1) (l.flatMap thCells ++ thCells x)) (hg : (w.alloc o).grownBy w2 vT.ownBlock) (hfr : Fresh (w.alloc o) vT v') :
    Fams w2 B (famV q r xs v' (l ++ [x])) := by
  have h2 := (Fams.head (r' := ⟨64, 4, v', l.length + 1, l.flatMap thCells ++ thCells x⟩) ((hf.alloc o).perm (perm1 _ _ _)) hg hfr hown).perm (perm1 _ _ _)
  simpa [famV] using h2
theorem famV_put {w : World} {B q r : Nat} {xs : List Value} {vT : Value} {l : List Th} (hf : Fams w B (famV q r xs vT l)) (j : Nat) (y : Value) : Fams (w.setCell ⟨q, j, none⟩ y) B (famV q r (xs.set j y) vT l) := Fams.store hf j y
theorem thsOf_succ (W : Wd) (t : Nat) : thsOf W (t + 1) = thsOf W t ++ [thOf W t] := by simp [thsOf, List.range_succ]
theorem thsOf_len (W : Wd) (t : Nat) : (thsOf W t).length = t := by simp [thsOf]

set_option maxHeartbeats 8000000 in
set_option maxRecDepth 100000 in
theorem view_any (p : Nat) (W : Wd) (w : World) {gP cP gB cB gL cL gH cH gS cS : Nat} {aG : Option Addr} {cG : Nat} (h : WIn w p W gP cP gB cB gL cL gH cH gS cS aG cG) (G : W.Good) :
    Calls Try.prog 56 #[.pointer (some ⟨p, 0, none⟩)] w fun e w' => ∃ vT, e = .returned (.agg #[vT, .string (flagsLoop W.set 0 ⟨#[]⟩)]) ∧ Below w.heap.size w w' ∧
      w'.ownsRow w.heap.size 64 4 vT W.prog.length ((thsOf W W.prog.length).flatMap thCells) := by
  have h5 := G.n5
  have hns := G.ok.ns
  have hnp := G.ok.np
  go_enter Try.func56, Try.ntmps56
  go_wp2
  go_loopw [4] (fun i wr => ∃ (t : Nat) (vT : Value), t ≤ W.prog.length ∧ i = .int .i64 t ∧ Below w.heap.size w wr ∧ Fams wr w.heap.size (famV (w.heap.size + 1) w.heap.size [vT, .string ⟨#[]⟩] vT (thsOf W t))) (fun i _ => W.prog.length - (intOf i).toNat)
  case atStart => exact ⟨0, _, Nat.zero_le _, rfl, ((Below.refl _ _).alloc (Nat.le_refl _) _).alloc (by simp) _, famV_start w⟩
  case round =>
    obtain ⟨t, vT, ht, rfl, hBr, hf⟩ := hrel
    have hWr := h.below hBr
    have fP := hWr.fP
    by_cases htn : t < W.prog.length
    · have hst := fun wx (hx : Below wr.heap.size wr wx) => State_any p t W wx (hWr.below hx) G htn t rfl
      have hwt := fun wx (hx : Below wr.heap.size wr wx) => Waits_any p t W wx (hWr.below hx) G htn t rfl
      have hho := fun wx (hx : Below wr.heap.size wr wx) => Holds_any p t W wx (hWr.below hx) G htn t rfl
      have fL := hWr.fL
      obtain ⟨n, hn⟩ := get_some W.place t (by rw [G.ok.nl]; exact htn)
      have kL := hWr.cL' t n hn
      have g2 : t < W.place.length := by rw [G.ok.nl]; exact htn
      have hth : thOf W t = ⟨stateOf W t, n, holdsOf W t, waitsOf W t⟩ := by unfold thOf; rw [hn]; rfl
      have lp := World.block_lt_of_cell? wr _ fL
      have lg := World.block_lt_of_cell? wr _ kL
      simp only at lp lg
      clear hWr
      go_wp2
      go_cut [5] (fun x wc => ∃ q, x = .pointer (some ⟨q, 0, none⟩) ∧ Below wr.heap.size wr wc ∧ wr.heap.size ≤ q ∧ wc.cell? ⟨q, 0, none⟩ = some (.int .i64 (stateOf W t)) ∧ wc.cell? ⟨q, 1, none⟩ = some (.int .i64 n) ∧ wc.cell? ⟨q, 2, none⟩ = some (.string ⟨#[]⟩) ∧ wc.cell? ⟨q, 3, none⟩ = some (.int .i64 (waitsOf W t)) ∧ wc.frozen? ⟨q, 2, none⟩ = false)
      case first =>
        go_region_law
          (first
            | (refine step_call (by rfl) 50 #[.pointer (some ⟨p, 0, none⟩), .int .i64 t] ?_ (hst _ ?_) ?_; (· go_simp); (· first | exact (Below.refl _ _).drew | exact ((Below.refl _ _).alloc (Nat.le_refl _) _).drew); rintro e w2 ⟨rfl, hbS⟩; refine ⟨_, rfl, ?_⟩; have hx1 : Below wr.heap.size wr w2 := (by first | exact below_of_drew hbS | exact (((Below.refl wr.heap.size wr).alloc (Nat.le_refl _) _).drew).trans (hbS.mono (by simp))); have fL2 := cell_later hx1 fL; have kL2 := cell_later hx1 kL; (first | (obtain ⟨hc, zq, hq, _⟩ := below_new (below_of_drew hbS); have q0 : w2.cell? ⟨wr.heap.size, 0, none⟩ = some (.int .i64 0) := hc 0 _ rfl; have q1 : w2.cell? ⟨wr.heap.size, 1, none⟩ = some (.int .i64 0) := hc 1 _ rfl; have q2 : w2.cell? ⟨wr.heap.size, 2, none⟩ = some (.string ⟨#[]⟩) := hc 2 _ rfl; have q3 : w2.cell? ⟨wr.heap.size, 3, none⟩ = some (.int .i64 0) := hc 3 _ rfl; clear hc) | skip); have lp2 := World.block_lt_of_cell? w2 _ fL2; have lg2 := World.block_lt_of_cell? w2 _ kL2; simp only at lp2 lg2)
            | (refine step_call (by rfl) 88 #[.pointer (some ⟨p, 0, none⟩), .int .i64 t] ?_ (hwt _ ?_) ?_; (· go_simp); (· first | exact hx1 | exact hx1.alloc hx1.size _); rintro e w3 ⟨rfl, hbW⟩; refine ⟨_, rfl, ?_⟩; have hx2 : Below wr.heap.size wr w3 := (by first | exact hx1.trans (hbW.mono hx1.size) | exact (hx1.alloc hx1.size _).trans (hbW.mono (by have := hx1.size; simp; omega))); have fL3 := cell_later hx2 fL; have kL3 := cell_later hx2 kL; (first | (obtain ⟨hc, zq, hq, _⟩ := below_new hbW; have q0 : w3.cell? ⟨w2.heap.size, 0, none⟩ = some (.int .i64 0) := hc 0 _ rfl; have q1 : w3.cell? ⟨w2.heap.size, 1, none⟩ = some (.int .i64 0) := hc 1 _ rfl; have q2 : w3.cell? ⟨w2.heap.size, 2, none⟩ = some (.string ⟨#[]⟩) := hc 2 _ rfl; have q3 : w3.cell? ⟨w2.heap.size, 3, none⟩ = some (.int .i64 0) := hc 3 _ rfl; clear hc) | (have q0' := cell_later hbW q0; have q1' := cell_later hbW q1; have q2' := cell_later hbW q2; have q3' := cell_later hbW q3; have zq0 := frozen_later hbW q0 (zq 0); have zq1 := frozen_later hbW q1 (zq 1); have zq2 := frozen_later hbW q2 (zq 2); have zq3 := frozen_later hbW q3 (zq 3)) | skip); have lp3 := World.block_lt_of_cell? w3 _ fL3; have lg3 := World.block_lt_of_cell? w3 _ kL3; simp only at lp3 lg3))
        all_goals
          go_wp2_with fail
          go_meet
          case rel =>
            first
              | exact ⟨_, rfl, hx2.alloc hx2.size _, hx2.size, new4_get w3 _ _ _ _ _⟩
              | exact ⟨w2.heap.size, rfl, (((hx2.setCell (p := ⟨w2.heap.size, 0, none⟩) hx1.size _).setCell (p := ⟨w2.heap.size, 1, none⟩) hx1.size _).setCell (p := ⟨w2.heap.size, 2, none⟩) hx1.size _).setCell (p := ⟨w2.heap.size, 3, none⟩) hx1.size _, hx1.size, set4_get q0 q1 q2 q3 (zq 2)⟩
              | exact ⟨wr.heap.size, rfl, (((hx2.setCell (p := ⟨wr.heap.size, 0, none⟩) (Nat.le_refl _) _).setCell (p := ⟨wr.heap.size, 1, none⟩) (Nat.le_refl _) _).setCell (p := ⟨wr.heap.size, 2, none⟩) (Nat.le_refl _) _).setCell (p := ⟨wr.heap.size, 3, none⟩) (Nat.le_refl _) _, Nat.le_refl _, set4_get q0' q1' q2' q3' zq2⟩
      case rest =>
        obtain ⟨q, rfl, hBc, hqr, d0, d1, d2, d3, zd⟩ := hcut
        have hfc := hf.below hBc
        have hqlt := World.block_lt_of_cell? wc _ d0
        simp only at hqlt
        have hr2 : w.heap.size + 1 < wr.heap.size := (famV_cell hf).2.2.2.1
        have hBwc := hBr.trans (hBc.mono hBr.size)
        have nq : q ≠ w.heap.size + 1 := by omega
        have hbq : w.heap.size ≤ q := by omega
        generalize holdsOf W t = hs at *
        have hho' := hho wc hBc
        have hall := hf.below_all
        have hlen := thsOf_len W t
        have hts := thsOf_succ W t
        clear hst hwt hho hf hBr h fP fL kL hBc
        go_wp2_with (first
          | (go_at_call 79; refine hho'.mono ?_; rintro e w5 ⟨rfl, hb5⟩; have d0' := cell_later hb5 d0; have d1' := cell_later hb5 d1; have d2' := cell_later hb5 d2; have d3' := cell_later hb5 d3; have zd' := frozen_later hb5 d2 zd; have hf5 := hfc.below hb5; have v0 := (famV_cell hf5).1; have zv := (famV_cell hf5).2.2.1; have hB5 := hBwc.trans (hb5.mono hBwc.size); have hf6 := hf5.setFar (j := 2) hall hqr (.string hs); have h5s := hb5.size)
          | (at_builtin; go_loud (refine wpList_appendLit _ rfl _ _ 30 rfl w.heap.size 64 (.agg #[.int .i64 0, .int .i64 0, .string ⟨#[]⟩, .int .i64 0]) 4 40 Try.underlying30 infoThread rfl (by decide) _ _ _ rfl (famV_row hf6) _ _ (by simp) rfl rfl ?g2 ?g3 ?g4 ?g5 ?_)))
        case g2 => exact ⟨rfl, rfl, rfl, rfl⟩
        case g3 => omega
        case g4 => omega
        case g5 => have := hB5.size; simp [World.setCell]; omega
        intro v' w7 hown7 hg7 hfr7 _
        have hf7 : Fams w7 w.heap.size (famV (w.heap.size + 1) w.heap.size [vT, .string ⟨#[]⟩] v' (thsOf W (t + 1))) := by
          rw [hts, hth]
          exact famV_app hf6 (by rw [hlen]; exact hown7) hg7 hfr7
        have v7 := (famV_cell hf7).1
        have z7 := (famV_cell hf7).2.2.1
        have hf8 := famV_put hf7 0 v'
        have hB7 : Below w.heap.size w w7 := below_app (hB5.setCell (p := ⟨q, 2, none⟩) hbq (.string hs)) (by have := hB5.size; simp [World.setCell]; omega) _ hg7 (famV_row hf6)
        obtain ⟨gv, cv, hvv, _⟩ := ownsRow_form hown7 (by omega)
        subst hvv
        clear hown7 hg7 hfr7 hf7 hf6 hf5
        go_wp2
        go_roundw
        case rel => exact ⟨t + 1, _, by omega, by go_num, hB7.setCell (p := ⟨w.heap.size + 1, 0, none⟩) (by simp) _, hf8⟩
        case measure => simp [intOf]; omega
    · have hte : t = W.prog.length := by omega
      subst hte
      go_wp2
      go_loopw [6] (fun i wx => ∃ (k : Nat) (acc : ByteArray), k ≤ 6 ∧ i = .int .i64 k ∧ acc.size ≤ k ∧ Hid (flagsLoop W.set 0 ⟨#[]⟩ = flagsLoop W.set k acc) ∧ Below w.heap.size w wx ∧ Fams wx w.heap.size (famV (w.heap.size + 1) w.heap.size [vT, .string acc] vT (thsOf W W.prog.length))) (fun i _ => 6 - (intOf i).toNat)
      case atStart => exact ⟨0, ⟨#[]⟩, by omega, rfl, Nat.zero_le _, rfl, hBr, hf⟩
      case round =>
        obtain ⟨k, acc, hk, rfl, hsz, hh, hBx, hfx⟩ := hrel
        clear hf hBr fP
        have hWx := h.below hBx
        have fS := hWx.fS
        by_cases hk6 : k < 6
        · obtain ⟨b, hb⟩ := get_some W.set k (by omega)
          have kS := hWx.cS' k b hb
          have g4 : k < W.set.length := by omega
          have hh2 : Hid (flagsLoop W.set 0 ⟨#[]⟩ = flagsLoop W.set (k + 1) (if b = true then acc ++ flagS.extract k (k + 1) else acc)) := by rw [Hid, hh.out, flagsLoop, if_pos hk6, hb]; rfl
          have v1 := (famV_cell hfx).2.1
          have zv := (famV_cell hfx).2.2.1
          clear hh hWx
          cases b with
          | true =>
            go_wp2
            go_region
            all_goals
              go_wp2
              go_roundw
              case rel => exact ⟨k + 1, acc ++ flagS.extract k (k + 1), by omega, by go_num, by rw [ByteArray.size_append, ByteArray.size_extract]; omega, hh2, (hBx.setCell (p := ⟨w.heap.size + 1, 1, none⟩) (by simp) _).drew, (famV_put hfx 1 _).drew⟩
              case measure => simp [intOf]; omega
          | false =>
            go_wp2
            go_roundw
            case rel => exact ⟨k + 1, acc, by omega, by go_num, by omega, hh2, hBx, hfx⟩
            case measure => simp [intOf]; omega
        · have hres : flagsLoop W.set 0 ⟨#[]⟩ = acc := by rw [hh.out, flagsLoop, if_neg hk6]
          have HR : Hid (flagsLoop W.set 0 ⟨#[]⟩ = acc) := hres
          obtain ⟨r0, r1, zr, hBr', hqr, hown⟩ := famV_res hfx
          have v0 := (famV_cell hfx).1
          have v1 := (famV_cell hfx).2.1
          have hlen := thsOf_len W W.prog.length
          obtain ⟨gv, cv, hvv, _⟩ := ownsRow_form (famV_row hfx) (by omega)
          rw [hlen] at hvv
          subst hvv
          clear hh hres hWx hfx fS h
          go_wp2
          refine bodyPost_ret (v := .agg #[.slice (some ⟨gv, 0, none⟩) W.prog.length cv, .string acc]) (by simp [results, Try.results56, go_sem, r0, r1]) rfl ⟨_, by rw [HR.out], ?_, ?_⟩
          · exact (hBx.setCell (p := ⟨w.heap.size, 0, none⟩) (Nat.le_refl _) _).setCell (p := ⟨w.heap.size, 1, none⟩) (Nat.le_refl _) _
          · have := hown (.slice (some ⟨gv, 0, none⟩) W.prog.length cv) (.string acc)
            rw [hlen] at this
            exact this
end Go.Proofs.Ytdfndcbakcmgiaa
namespace Go.Proofs.Ytdfndcbakcmgiaa
open Go.RowKit

theorem refReplay_err (s sch : ByteArray) (w : World) (h : (ckP s).1 ≠ 0) :
    Calls Try.prog 20 #[.string s, .string sch] w fun e w' => e = .returned (.tuple #[.agg #[.slice none 0 0, .string ⟨#[]⟩], .int .i64 (ckP s).1]) ∧ Below w.heap.size w w' := by
  have hwd := fun w => world_err s sch w h
  generalize (ckP s).1 = a at *
  have ha : (a != 0) = true := by simpa using h
  go_enter Try.func20, Try.ntmps20
  go_wp2_with (go_at_call 49; refine (hwd _).mono ?_; rintro e w1 ⟨rfl, hb⟩; obtain ⟨hc, hf, hz, hB⟩ := below_new hb; have c0 : w1.cell? ⟨w.heap.size, 0, none⟩ = some (.slice none 0 0) := hc 0 _ rfl; have c1 : w1.cell? ⟨w.heap.size, 1, none⟩ = some (.string ⟨#[]⟩) := hc 1 _ rfl; clear hc hb)
  exact bodyPost_ret (v := .tuple #[.agg #[.slice none 0 0, .string ⟨#[]⟩], .int .i64 a]) (by simp [results, Try.results20, go_sem, c0, c1]) rfl ⟨rfl, (hB.setCell (p := ⟨w.heap.size, 0, none⟩) (Nat.le_refl _) _).setCell (p := ⟨w.heap.size, 1, none⟩) (Nat.le_refl _) _⟩

theorem refReplay_none (s sch : ByteArray) (w : World) (h : (ckP s).1 = 0) (hs : s.size ≤ 160) (hsch : sch.size ≤ maxLen) (I0 : (beginW (thLoop s 0 0 [])).Inv) (hW : toLoop sch (beginW (thLoop s 0 0 [])) 0 = none) :
    Calls Try.prog 20 #[.string s, .string sch] w fun e w' => e = .returned (.tuple #[.agg #[.slice none 0 0, .string ⟨#[]⟩], .int .i64 5]) ∧ Below w.heap.size w w' := by
  have hwd := fun w => world_none s sch w h hs hsch I0 hW
  go_enter Try.func20, Try.ntmps20
  go_wp2_with (go_at_call 49; refine (hwd _).mono ?_; rintro e w1 ⟨rfl, hb⟩; obtain ⟨hc, hf, hz, hB⟩ := below_new hb; have c0 : w1.cell? ⟨w.heap.size, 0, none⟩ = some (.slice none 0 0) := hc 0 _ rfl; have c1 : w1.cell? ⟨w.heap.size, 1, none⟩ = some (.string ⟨#[]⟩) := hc 1 _ rfl; clear hc hb)
  exact bodyPost_ret (v := .tuple #[.agg #[.slice none 0 0, .string ⟨#[]⟩], .int .i64 5]) (by simp [results, Try.results20, go_sem, c0, c1]) rfl ⟨rfl, (hB.setCell (p := ⟨w.heap.size, 0, none⟩) (Nat.le_refl _) _).setCell (p := ⟨w.heap.size, 1, none⟩) (Nat.le_refl _) _⟩

set_option maxHeartbeats 1000000 in
theorem refReplay_ok (s sch : ByteArray) (w : World) (h : (ckP s).1 = 0) (hs : s.size ≤ 160) (hsch : sch.size ≤ maxLen) (I0 : (beginW (thLoop s 0 0 [])).Inv) (W : Wd) (hW : toLoop sch (beginW (thLoop s 0 0 [])) 0 = some W) :
    Calls Try.prog 20 #[.string s, .string sch] w fun e w' => ∃ g cap, e = .returned (.tuple #[.agg #[.slice (some ⟨g, 0, none⟩) W.prog.length cap, .string (flagsLoop W.set 0 ⟨#[]⟩)], .int .i64 0]) ∧ Below w.heap.size w w' ∧
      w'.ownsRow (w.heap.size + 1) 64 4 (.slice (some ⟨g, 0, none⟩) W.prog.length cap) W.prog.length ((thsOf W W.prog.length).flatMap thCells) := by
  have hwd := fun w => world_ok s sch w h hs hsch I0 W hW
  go_enter Try.func20, Try.ntmps20
  go_wp2_with (go_at_call 49; refine (hwd _).mono ?_; rintro e w1 ⟨p, rfl, hb, hR, I⟩; obtain ⟨hc, hf, hz, hB⟩ := below_new hb; have c0 : w1.cell? ⟨w.heap.size, 0, none⟩ = some (.slice none 0 0) := hc 0 _ rfl; have c1 : w1.cell? ⟨w.heap.size, 1, none⟩ = some (.string ⟨#[]⟩) := hc 1 _ rfl; clear hc hb)
  obtain ⟨_, _, _, _, _, _, _, _, _, _, _, _, hWi⟩ := hR.wIn I.good.ok
  have hv := view_any p W w1 hWi I.good
  have hnp := I.good.ok.np
  clear hwd hR hWi
  refine hv.mono ?_
  rintro e w2 ⟨vT, rfl, hb2, ho2⟩
  have d0 := cell_later hb2 c0
  have d1 := cell_later hb2 c1
  have z0 := frozen_later hb2 c0 (hf 0)
  have z1 := frozen_later hb2 c1 (hf 1)
  obtain ⟨g, cap, hvv, hBg, _⟩ := ownsRow_form ho2 hnp
  subst hvv
  go_wp2
  refine bodyPost_ret (v := .tuple #[.agg #[.slice (some ⟨g, 0, none⟩) W.prog.length cap, .string (flagsLoop W.set 0 ⟨#[]⟩)], .int .i64 0]) (by simp [results, Try.results20, go_sem, d0, d1]) rfl ⟨g, cap, rfl, ?_, ?_⟩
  · exact ((hB.trans (hb2.mono hB.size)).setCell (p := ⟨w.heap.size, 0, none⟩) (Nat.le_refl _) _).setCell (p := ⟨w.heap.size, 1, none⟩) (Nat.le_refl _) _
  · have h1 : w2.ownsRow (w.heap.size + 1) 64 4 (.slice (some ⟨g, 0, none⟩) W.prog.length cap) W.prog.length ((thsOf W W.prog.length).flatMap thCells) := by
      obtain ⟨k1, k2⟩ := ho2
      refine ⟨k1, ?_⟩
      rcases k2 with k2 | ⟨g', cap', cur, a, b, c⟩
      · exact .inl k2
      · exact .inr ⟨g', cap', cur, a, by omega, c⟩
    exact ownsRow_setCell_below (ownsRow_setCell_below h1 (a := ⟨w.heap.size, 0, none⟩) (by simp) _) (a := ⟨w.heap.size, 1, none⟩) (by simp) _
end Go.Proofs.Ytdfndcbakcmgiaa
