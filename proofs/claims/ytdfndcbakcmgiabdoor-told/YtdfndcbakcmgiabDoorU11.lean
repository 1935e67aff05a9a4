import Derived.Test.YtdfndcbakcmgiabDoorU6
namespace Go.Proofs.YtdfndcbakcmgiabDoor
open Go.RowKit

/-! The finder. -/
/-- The circles that are kept, and whether there are more. -/
abbrev Fd := List (List Nat) × Bool
def keepS (la : List Aq) (most : Nat) (st : Fd) (p : List Nat) : Fd :=
  if shareB [(aqOf la (pAt p (p.length - 1))).k] (aqOf la (pAt p 0)).hl = true then
    (if most ≤ st.1.length then (st.1, true) else (st.1 ++ [p], st.2))
  else st
def extS (la : List Aq) (most : Nat) : Nat → List Nat → Fd → Fd
  | 0, p, st => keepS la most st p
  | d + 1, p, st => (List.range la.length).foldl (fun st k => if st.2 = true then st else if fitsB la p k = true then extS la most d (p ++ [k]) st else st) st
def findS (la : List Aq) (most : Nat) : Fd := [2, 3, 4, 5].foldl (fun st n => extS la most n [] st) ([], false)
def chL (C : List (List Nat)) : List Value := C.flatMap fun p => (chC p).toList
theorem infoCh : (Tryd.prog.info? 95).map (fun i => (i.zero, i.size, i.bytes)) = some (some (.agg #[.int .i64 0, .int .i64 0, .int .i64 0, .int .i64 0, .int .i64 0, .int .i64 0]), 6, 48) := by kernel_rfl

/-- The finder lies in block f, its circles above. -/
structure FI (w0 w : World) (f : Nat) (a : Option Addr) (n ca most : Nat) (v : Value) (st : Fd) : Prop where
  below : Below f w0 w
  top : f < w.heap.size
  blk : w.heap[f]? = some (.cells #[.slice a n ca, .int .i64 most, v, .bool st.2] 118)
  row : w.ownsRow (f + 1) 95 6 v st.1.length (chL st.1)
theorem FI.later {w0 w w' : World} {f : Nat} {a : Option Addr} {n ca most : Nat} {v : Value} {st : Fd} (h : FI w0 w f a n ca most v st) (hb : Below w.heap.size w w') : FI w0 w' f a n ca most v st :=
  ⟨h.below.trans (hb.mono (Nat.le_of_lt h.top)), Nat.lt_of_lt_of_le h.top hb.size, by rw [hb.block f h.top]; exact h.blk, ownsRow_below h.row hb⟩

/-- What a finder's call leaves as it was: all blocks but the finder's and its circles'. -/
structure Kp (f : Nat) (v v' : Value) (w w' : World) : Prop where
  size : w.heap.size ≤ w'.heap.size
  blk : ∀ b, b < w.heap.size → b ≠ f → some b ≠ v.ownBlock → w'.heap[b]? = w.heap[b]?
  own : Fresh w v v'
theorem Kp.ofBelow {f : Nat} {v : Value} {w w' : World} (h : Below w.heap.size w w') : Kp f v v w w' := ⟨h.size, fun b hb _ _ => h.block b hb, .inl rfl⟩
theorem Kp.trans {f : Nat} {v v1 v2 : Value} {w w1 w2 : World} (h : Kp f v v1 w w1) (k : Kp f v1 v2 w1 w2) : Kp f v v2 w w2 := by
  have hs := h.size
  refine ⟨Nat.le_trans h.size k.size, fun b hb hf hv => ?_, ?_⟩
  · rw [k.blk b (by omega) hf ?_, h.blk b hb hf hv]
    rcases h.own with e | ⟨g, e, hg⟩
    · rw [e]; exact hv
    · rw [e]; intro hh; cases hh; omega
  · rcases k.own with e | ⟨g, e, hg⟩
    · rcases h.own with e2 | ⟨g, e2, hg⟩
      · exact .inl (e.trans e2)
      · exact .inr ⟨g, e.trans e2, hg⟩
    · exact .inr ⟨g, e, by omega⟩

set_option maxRecDepth 100000 in
set_option maxHeartbeats 8000000 in
theorem keep_no (f : Nat) (a : Option Addr) (ca most : Nat) (la : List Aq) (hok : ∀ x ∈ la, x.Ok) (w0 w : World) (v : Value) (st : Fd) (h : FI w0 w f a la.length ca most v st) (ha : AqsAt w a la)
    (p : List Nat) (m : Nat) (hm : p.length = m + 1) (hm5 : m < 5) (hin : ∀ i ∈ p, i < la.length) (cs : Array Value) (hcs : cs = chC p)
    (hno : shareB [(aqOf la (pAt p (p.length - 1))).k] (aqOf la (pAt p 0)).hl = false) :
    Calls Tryd.prog 62 #[.pointer (some ⟨f, 0, none⟩), .agg cs] w fun e w' => e = .returned (.tuple #[]) ∧ FI w0 w' f a la.length ca most v st ∧ Kp f v v w w' := by
  subst hcs
  have hB1 : Below w.heap.size w (chBox w p) := (Below.refl _ _).alloc (Nat.le_refl _) _
  have pA : ∀ i v, (chC p)[i]? = some v → (chBox w p).cell? ⟨w.heap.size, i, none⟩ = some v := fun i v hv => cellB (heap_alloc_new _ _) hv
  obtain ⟨i0, hi0⟩ := get_some p 0 (by omega)
  obtain ⟨x0, hx0⟩ := get_some la i0 (hin i0 (List.mem_of_getElem? hi0))
  obtain ⟨km, hkm⟩ := get_some p m (by omega)
  obtain ⟨xm, hxm⟩ := get_some la km (hin km (List.mem_of_getElem? hkm))
  have hi0l := (List.getElem?_eq_some_iff.1 hx0).1
  have hyo := hok x0 (List.mem_of_getElem? hx0)
  rw [hm, Nat.add_sub_cancel, pAt_get hkm, aqOf_get hxm, pAt_get hi0, aqOf_get hx0] at hno
  have f0 : (chBox w p).cell? ⟨f, 0, none⟩ = some (.slice a la.length ca) := cell_later hB1 (cellB h.blk rfl)
  obtain ⟨g, e1, c0, c1, c2, c3, c4⟩ := (ha.below hB1) i0 x0 hx0
  subst e1
  have q0 := pA 0 _ (chC_at p 0 (by omega))
  have q1 := pA 1 _ (chC_at p 1 (by omega))
  have q2 := pA 2 _ (chC_at p 2 (by omega))
  have q3 := pA 3 _ (chC_at p 3 (by omega))
  have q4 := pA 4 _ (chC_at p 4 (by omega))
  have q5 := pA 5 (.int .i64 p.length) rfl
  have hLd := fun w' h0' ha' => leadsC_any f (some ⟨g, 0, none⟩) ca la hok w' h0' ha' p m km hm hm5 hkm xm x0 hxm hyo _ _ rfl rfl
  rw [hno] at hLd
  unfold chC aqC at hLd
  rw [pAt_get hi0] at q0 hLd
  have hchC : chC p = #[.int .i64 i0, .int .i64 (pAt p 1), .int .i64 (pAt p 2), .int .i64 (pAt p 3), .int .i64 (pAt p 4), .int .i64 p.length] := by rw [chC, pAt_get hi0]
  rw [hchC]
  generalize hX : chBox w p = X at *
  have HX : Hid (w.alloc (.cells #[.int .i64 i0, .int .i64 (pAt p 1), .int .i64 (pAt p 2), .int .i64 (pAt p 3), .int .i64 (pAt p 4), .int .i64 p.length] 95) = X) := by rw [← hchC]; exact hX
  have k0 : (0 : Int) ≤ (i0 : Int) := by omega
  have kl : (i0 : Int) < (la.length : Int) := by omega
  have HLd : Hid (∀ w' (h0' : w'.cell? ⟨f, 0, none⟩ = some (.slice (some ⟨g, 0, none⟩) la.length ca)) (ha' : AqsAt w' (some ⟨g, 0, none⟩) la), _) := hLd
  have haX := ha.below hB1
  generalize evI x0.ev = vx at *
  clear hx0 hi0 hkm hxm hno hm pA hX hchC hLd
  go_enter Tryd.func62, Tryd.ntmps62
  go_upto_region 1 with fail
  rw [HX.out]
  go_region_held3 (fun w' => w'.cell? ⟨f, 0, none⟩ = some (.slice (some ⟨g, 0, none⟩) la.length ca) ∧ w'.cell? ⟨w.heap.size, 0, none⟩ = some (.int .i64 (i0 : Int))
      ∧ w'.cell? ⟨g, i0 * 5, none⟩ = some (.int .i64 x0.th) ∧ w'.cell? ⟨g, i0 * 5 + 1, none⟩ = some (.int .i64 x0.pl) ∧ w'.cell? ⟨g, i0 * 5 + 2, none⟩ = some (.string (letS 97 [x0.k])) ∧ w'.cell? ⟨g, i0 * 5 + 3, none⟩ = some (.string (letS 97 x0.hl)) ∧ w'.cell? ⟨g, i0 * 5 + 4, none⟩ = some (.int .i64 vx))
    (first | (refine ⟨cell_later ?_ f0, cell_later ?_ q0, cell_later ?_ c0, cell_later ?_ c1, cell_later ?_ c2, cell_later ?_ c3, cell_later ?_ c4⟩ <;> first | exact Below.refl _ _ | exact (Below.refl _ _).drew | exact (Below.refl _ _).alloc (Nat.le_refl _) _ | exact ((Below.refl _ _).alloc (Nat.le_refl _) _).drew | exact (Below.refl _ _).drew.alloc (Nat.le_refl _) _) | go_keep)
    (fail)
  have hBz := ((Below.refl X.heap.size X).alloc (Nat.le_refl _) (.cells #[.int .i64 x0.th, .int .i64 x0.pl, .string (letS 97 [x0.k]), .string (letS 97 x0.hl), .int .i64 vx] 37)).drew
  have u0 := cell_later hBz q0
  have u1 := cell_later hBz q1
  have u2 := cell_later hBz q2
  have u3 := cell_later hBz q3
  have u4 := cell_later hBz q4
  have u5 := cell_later hBz q5
  have hF := cell_later hBz f0
  have hA3 := haX.below hBz
  go_wp2_with (first | (go_at_call 77; refine (HLd.out _ hF hA3).mono ?_; rintro e w3 ⟨rfl, hb3⟩))
  (try simp only [Exit.inBlock, Exit.then])
  refine bodyPost_ret (results_none rfl _ _ _) rfl ?_
  exact ⟨rfl, ((h.later hB1).later hBz).later hb3, Kp.ofBelow (hB1.trans ((hBz.trans (hb3.mono hBz.size)).mono hB1.size))⟩
end Go.Proofs.YtdfndcbakcmgiabDoor
namespace Go.Proofs.YtdfndcbakcmgiabDoor
open Go.RowKit

theorem FI.setMore {w0 w : World} {f : Nat} {a : Option Addr} {n ca most : Nat} {v : Value} {st : Fd} (h : FI w0 w f a n ca most v st) : FI w0 (w.setCell ⟨f, 3, none⟩ (.bool true)) f a n ca most v (st.1, true) where
  below := h.below.setCell (Nat.le_refl _) _
  top := by simpa using h.top
  blk := by rw [heap_setCell_same w f 3 _ _ _ h.blk]; rfl
  row := by
    rw [setCell_eq_setRow w f 3 _ _ _ _ h.blk]
    refine h.row.kept (grownBy_setRow w f _) ?_
    right
    intro hh
    have := (World.ownsRow.lt h.row f hh).1
    omega

theorem kp_set (w : World) (m f : Nat) (v : Value) : Kp f v v w ((w.drewN m).setCell ⟨f, 3, none⟩ (.bool true)) :=
  ⟨by simp, fun b _ hf _ => by rw [Below.heap_setCell _ _ _ _ hf]; simp, .inl rfl⟩

set_option maxRecDepth 100000 in
set_option maxHeartbeats 8000000 in
theorem keep_full (f : Nat) (a : Option Addr) (ca most : Nat) (la : List Aq) (hok : ∀ x ∈ la, x.Ok) (w0 w : World) (v : Value) (st : Fd) (h : FI w0 w f a la.length ca most v st) (ha : AqsAt w a la)
    (p : List Nat) (m : Nat) (hm : p.length = m + 1) (hm5 : m < 5) (hin : ∀ i ∈ p, i < la.length) (cs : Array Value) (hcs : cs = chC p)
    (hno : shareB [(aqOf la (pAt p (p.length - 1))).k] (aqOf la (pAt p 0)).hl = true) (hmost : most ≤ st.1.length) :
    Calls Tryd.prog 62 #[.pointer (some ⟨f, 0, none⟩), .agg cs] w fun e w' => e = .returned (.tuple #[]) ∧ FI w0 w' f a la.length ca most v (st.1, true) ∧ Kp f v v w w' := by
  subst hcs
  have hB1 : Below w.heap.size w (chBox w p) := (Below.refl _ _).alloc (Nat.le_refl _) _
  have pA : ∀ i v, (chC p)[i]? = some v → (chBox w p).cell? ⟨w.heap.size, i, none⟩ = some v := fun i v hv => cellB (heap_alloc_new _ _) hv
  obtain ⟨i0, hi0⟩ := get_some p 0 (by omega)
  obtain ⟨x0, hx0⟩ := get_some la i0 (hin i0 (List.mem_of_getElem? hi0))
  obtain ⟨km, hkm⟩ := get_some p m (by omega)
  obtain ⟨xm, hxm⟩ := get_some la km (hin km (List.mem_of_getElem? hkm))
  have hi0l := (List.getElem?_eq_some_iff.1 hx0).1
  have hyo := hok x0 (List.mem_of_getElem? hx0)
  rw [hm, Nat.add_sub_cancel, pAt_get hkm, aqOf_get hxm, pAt_get hi0, aqOf_get hx0] at hno
  have f0 : (chBox w p).cell? ⟨f, 0, none⟩ = some (.slice a la.length ca) := cell_later hB1 (cellB h.blk rfl)
  obtain ⟨g, e1, c0, c1, c2, c3, c4⟩ := (ha.below hB1) i0 x0 hx0
  subst e1
  have q0 := pA 0 _ (chC_at p 0 (by omega))
  have q1 := pA 1 _ (chC_at p 1 (by omega))
  have q2 := pA 2 _ (chC_at p 2 (by omega))
  have q3 := pA 3 _ (chC_at p 3 (by omega))
  have q4 := pA 4 _ (chC_at p 4 (by omega))
  have q5 := pA 5 (.int .i64 p.length) rfl
  have hLd := fun w' h0' ha' => leadsC_any f (some ⟨g, 0, none⟩) ca la hok w' h0' ha' p m km hm hm5 hkm xm x0 hxm hyo _ _ rfl rfl
  rw [hno] at hLd
  unfold chC aqC at hLd
  rw [pAt_get hi0] at q0 hLd
  have hchC : chC p = #[.int .i64 i0, .int .i64 (pAt p 1), .int .i64 (pAt p 2), .int .i64 (pAt p 3), .int .i64 (pAt p 4), .int .i64 p.length] := by rw [chC, pAt_get hi0]
  rw [hchC]
  generalize hX : chBox w p = X at *
  have HX : Hid (w.alloc (.cells #[.int .i64 i0, .int .i64 (pAt p 1), .int .i64 (pAt p 2), .int .i64 (pAt p 3), .int .i64 (pAt p 4), .int .i64 p.length] 95) = X) := by rw [← hchC]; exact hX
  have k0 : (0 : Int) ≤ (i0 : Int) := by omega
  have kl : (i0 : Int) < (la.length : Int) := by omega
  have HLd : Hid (∀ w' (h0' : w'.cell? ⟨f, 0, none⟩ = some (.slice (some ⟨g, 0, none⟩) la.length ca)) (ha' : AqsAt w' (some ⟨g, 0, none⟩) la), _) := hLd
  have haX := ha.below hB1
  generalize evI x0.ev = vx at *
  clear hx0 hi0 hkm hxm hno hm pA hX hchC hLd
  go_enter Tryd.func62, Tryd.ntmps62
  go_upto_region 1 with fail
  rw [HX.out]
  go_region_held3 (fun w' => w'.cell? ⟨f, 0, none⟩ = some (.slice (some ⟨g, 0, none⟩) la.length ca) ∧ w'.cell? ⟨w.heap.size, 0, none⟩ = some (.int .i64 (i0 : Int))
      ∧ w'.cell? ⟨g, i0 * 5, none⟩ = some (.int .i64 x0.th) ∧ w'.cell? ⟨g, i0 * 5 + 1, none⟩ = some (.int .i64 x0.pl) ∧ w'.cell? ⟨g, i0 * 5 + 2, none⟩ = some (.string (letS 97 [x0.k])) ∧ w'.cell? ⟨g, i0 * 5 + 3, none⟩ = some (.string (letS 97 x0.hl)) ∧ w'.cell? ⟨g, i0 * 5 + 4, none⟩ = some (.int .i64 vx))
    (first | (refine ⟨cell_later ?_ f0, cell_later ?_ q0, cell_later ?_ c0, cell_later ?_ c1, cell_later ?_ c2, cell_later ?_ c3, cell_later ?_ c4⟩ <;> first | exact Below.refl _ _ | exact (Below.refl _ _).drew | exact (Below.refl _ _).alloc (Nat.le_refl _) _ | exact ((Below.refl _ _).alloc (Nat.le_refl _) _).drew | exact (Below.refl _ _).drew.alloc (Nat.le_refl _) _) | go_keep)
    (fail)
  have hBz := ((Below.refl X.heap.size X).alloc (Nat.le_refl _) (.cells #[.int .i64 x0.th, .int .i64 x0.pl, .string (letS 97 [x0.k]), .string (letS 97 x0.hl), .int .i64 vx] 37)).drew
  have u0 := cell_later hBz q0
  have u1 := cell_later hBz q1
  have u2 := cell_later hBz q2
  have u3 := cell_later hBz q3
  have u4 := cell_later hBz q4
  have u5 := cell_later hBz q5
  have hF := cell_later hBz f0
  have hA3 := haX.below hBz
  obtain ⟨av, cv, hv⟩ : ∃ av cv, v = .slice av st.1.length cv := by
    rcases h.row.2 with ⟨rfl, h2⟩ | ⟨gg, cap, _, rfl, _⟩
    · exact ⟨none, 0, by rw [h2]⟩
    · exact ⟨_, cap, rfl⟩
  subst hv
  go_upto_region 3 with (first | (go_at_call 77; refine (HLd.out _ hF hA3).mono ?_; rintro e w3 ⟨rfl, hb3⟩))
  have h3 := ((h.later hB1).later hBz).later hb3
  have hw3 := hB1.trans ((hBz.trans (hb3.mono hBz.size)).mono hB1.size)
  have y1 : w3.cell? ⟨f, 1, none⟩ = some (.int .i64 most) := cellB h3.blk rfl
  have y2 : w3.cell? ⟨f, 2, none⟩ = some (.slice av st.1.length cv) := cellB h3.blk rfl
  have y3 : w3.cell? ⟨f, 3, none⟩ = some (.bool st.2) := cellB h3.blk rfl
  have hge : decide ((st.1.length : Int) < (most : Int)) = false := decide_eq_false (by omega)
  have hge2 : decide ((most : Int) ≤ (st.1.length : Int)) = true := decide_eq_true (by omega)
  have hge3 : decide (most ≤ st.1.length) = true := decide_eq_true hmost
  have zf : w3.frozen? ⟨f, 3, none⟩ = false := frozen_of_row _ _ 3 _ _ h3.blk
  clear hmost
  go_quiet (fail)
  go_wp2
  (try simp only [Exit.inBlock, Exit.then])
  refine bodyPost_ret (results_none rfl _ _ _) rfl ?_
  exact ⟨rfl, (h3.later (below_drewN _ _)).setMore, (Kp.ofBelow hw3).trans (kp_set w3 nq f (.slice av st.1.length cv))⟩
end Go.Proofs.YtdfndcbakcmgiabDoor
namespace Go.Proofs.YtdfndcbakcmgiabDoor
open Go.RowKit

theorem FI.added {w0 w4 w5 : World} {f : Nat} {a : Option Addr} {n ca most : Nat} {v : Value} {st : Fd} (h : FI w0 w4 f a n ca most v st) {o : Obj} {gg cap : Nat} {p : List Nat} {cs : List Value} (hcs : cs = (chC p).toList)
    (hown : w5.ownsRow (f + 1) 95 6 (.slice (some ⟨gg, 0, none⟩) (st.1.length + 1) cap) (st.1.length + 1) (chL st.1 ++ cs)) (hg : ((w4.alloc o).drew).grownBy w5 v.ownBlock) :
    FI w0 (w5.setCell ⟨f, 2, none⟩ (.slice (some ⟨gg, 0, none⟩) (st.1.length + 1) cap)) f a n ca most (.slice (some ⟨gg, 0, none⟩) (st.1.length + 1) cap) (st.1 ++ [p], st.2) := by
  have nb : some f ≠ v.ownBlock := fun hh => by
    have := (World.ownsRow.lt h.row f hh.symm).1
    omega
  have hgl := World.ownsRow.lt hown gg rfl
  have htop := h.top
  have hB : Below f w0 w5 := (h.below.alloc (Nat.le_trans (Nat.le_of_lt h.top) (Nat.le_refl _)) o).drew.grown hg (by simp; omega) (fun k hk => by have := (World.ownsRow.lt h.row k hk).1; omega)
  have hbl : w5.heap[f]? = some (.cells #[.slice a n ca, .int .i64 most, v, .bool st.2] 118) := by
    rw [hg.block f (by show f < (w4.heap.push o).size; simp; omega) nb]
    show (w4.heap.push o)[f]? = _
    rw [Array.getElem?_push_lt htop, ← h.blk]
    simp [htop]
  refine ⟨hB.setCell (Nat.le_refl _) _, by simp; omega, by rw [heap_setCell_same w5 f 2 _ _ _ hbl]; rfl, ?_⟩
  rw [setCell_eq_setRow w5 f 2 _ _ _ _ hbl]
  subst hcs
  have hch : chL (st.1 ++ [p]) = chL st.1 ++ (chC p).toList := by simp [chL]
  rw [List.length_append, hch]
  exact hown.kept (grownBy_setRow w5 f _) (.inr (by simp [Value.ownBlock]; omega))

theorem kp_add {w4 w5 : World} {f : Nat} {v : Value} {o : Obj} {gg n cap : Nat} (u : Value) (hg : ((w4.alloc o).drew).grownBy w5 v.ownBlock) (hat : v.ownBlock = some gg ∨ gg = w4.heap.size + 1) :
    Kp f v (.slice (some ⟨gg, 0, none⟩) n cap) w4 (w5.setCell ⟨f, 2, none⟩ u) := by
  have hs := hg.size
  have hs2 : ((w4.alloc o).drew).heap.size = w4.heap.size + 1 := by simp
  refine ⟨by simp; omega, fun b hb hf hv => ?_, ?_⟩
  · rw [Below.heap_setCell _ _ _ _ hf, hg.block b (by omega) hv]
    exact heap_alloc_old w4 o hb
  · rcases hat with h | h
    · exact .inl h.symm
    · exact .inr ⟨gg, rfl, by omega⟩

set_option maxRecDepth 100000 in
set_option maxHeartbeats 8000000 in
theorem keep_add (f : Nat) (a : Option Addr) (ca most : Nat) (la : List Aq) (hok : ∀ x ∈ la, x.Ok) (w0 w : World) (v : Value) (st : Fd) (h : FI w0 w f a la.length ca most v st) (ha : AqsAt w a la)
    (p : List Nat) (m : Nat) (hm : p.length = m + 1) (hm5 : m < 5) (hin : ∀ i ∈ p, i < la.length) (cs : Array Value) (hcs : cs = chC p)
    (hno : shareB [(aqOf la (pAt p (p.length - 1))).k] (aqOf la (pAt p 0)).hl = true) (hmost : st.1.length < most) (hm100 : most ≤ 1000) :
    Calls Tryd.prog 62 #[.pointer (some ⟨f, 0, none⟩), .agg cs] w fun e w' => e = .returned (.tuple #[]) ∧ ∃ v', FI w0 w' f a la.length ca most v' (st.1 ++ [p], st.2) ∧ Kp f v v' w w' := by
  subst hcs
  have hB1 : Below w.heap.size w (chBox w p) := (Below.refl _ _).alloc (Nat.le_refl _) _
  have pA : ∀ i v, (chC p)[i]? = some v → (chBox w p).cell? ⟨w.heap.size, i, none⟩ = some v := fun i v hv => cellB (heap_alloc_new _ _) hv
  obtain ⟨i0, hi0⟩ := get_some p 0 (by omega)
  obtain ⟨x0, hx0⟩ := get_some la i0 (hin i0 (List.mem_of_getElem? hi0))
  obtain ⟨km, hkm⟩ := get_some p m (by omega)
  obtain ⟨xm, hxm⟩ := get_some la km (hin km (List.mem_of_getElem? hkm))
  have hi0l := (List.getElem?_eq_some_iff.1 hx0).1
  have hyo := hok x0 (List.mem_of_getElem? hx0)
  rw [hm, Nat.add_sub_cancel, pAt_get hkm, aqOf_get hxm, pAt_get hi0, aqOf_get hx0] at hno
  have f0 : (chBox w p).cell? ⟨f, 0, none⟩ = some (.slice a la.length ca) := cell_later hB1 (cellB h.blk rfl)
  obtain ⟨g, e1, c0, c1, c2, c3, c4⟩ := (ha.below hB1) i0 x0 hx0
  subst e1
  have q0 := pA 0 _ (chC_at p 0 (by omega))
  have q1 := pA 1 _ (chC_at p 1 (by omega))
  have q2 := pA 2 _ (chC_at p 2 (by omega))
  have q3 := pA 3 _ (chC_at p 3 (by omega))
  have q4 := pA 4 _ (chC_at p 4 (by omega))
  have q5 := pA 5 (.int .i64 p.length) rfl
  have hLd := fun w' h0' ha' => leadsC_any f (some ⟨g, 0, none⟩) ca la hok w' h0' ha' p m km hm hm5 hkm xm x0 hxm hyo _ _ rfl rfl
  rw [hno] at hLd
  unfold chC aqC at hLd
  rw [pAt_get hi0] at q0 hLd
  have hchC : chC p = #[.int .i64 i0, .int .i64 (pAt p 1), .int .i64 (pAt p 2), .int .i64 (pAt p 3), .int .i64 (pAt p 4), .int .i64 p.length] := by rw [chC, pAt_get hi0]
  rw [hchC]
  generalize hX : chBox w p = X at *
  have HX : Hid (w.alloc (.cells #[.int .i64 i0, .int .i64 (pAt p 1), .int .i64 (pAt p 2), .int .i64 (pAt p 3), .int .i64 (pAt p 4), .int .i64 p.length] 95) = X) := by rw [← hchC]; exact hX
  have k0 : (0 : Int) ≤ (i0 : Int) := by omega
  have kl : (i0 : Int) < (la.length : Int) := by omega
  have HLd : Hid (∀ w' (h0' : w'.cell? ⟨f, 0, none⟩ = some (.slice (some ⟨g, 0, none⟩) la.length ca)) (ha' : AqsAt w' (some ⟨g, 0, none⟩) la), _) := hLd
  have haX := ha.below hB1
  generalize evI x0.ev = vx at *
  have HCP : [Value.int .i64 i0, .int .i64 (pAt p 1), .int .i64 (pAt p 2), .int .i64 (pAt p 3), .int .i64 (pAt p 4), .int .i64 p.length] = (chC p).toList := by rw [hchC]
  replace HCP := show Hid _ from HCP
  clear hx0 hi0 hkm hxm hno hm pA hX hchC hLd
  go_enter Tryd.func62, Tryd.ntmps62
  go_upto_region 1 with fail
  rw [HX.out]
  go_region_held3 (fun w' => w'.cell? ⟨f, 0, none⟩ = some (.slice (some ⟨g, 0, none⟩) la.length ca) ∧ w'.cell? ⟨w.heap.size, 0, none⟩ = some (.int .i64 (i0 : Int))
      ∧ w'.cell? ⟨g, i0 * 5, none⟩ = some (.int .i64 x0.th) ∧ w'.cell? ⟨g, i0 * 5 + 1, none⟩ = some (.int .i64 x0.pl) ∧ w'.cell? ⟨g, i0 * 5 + 2, none⟩ = some (.string (letS 97 [x0.k])) ∧ w'.cell? ⟨g, i0 * 5 + 3, none⟩ = some (.string (letS 97 x0.hl)) ∧ w'.cell? ⟨g, i0 * 5 + 4, none⟩ = some (.int .i64 vx))
    (first | (refine ⟨cell_later ?_ f0, cell_later ?_ q0, cell_later ?_ c0, cell_later ?_ c1, cell_later ?_ c2, cell_later ?_ c3, cell_later ?_ c4⟩ <;> first | exact Below.refl _ _ | exact (Below.refl _ _).drew | exact (Below.refl _ _).alloc (Nat.le_refl _) _ | exact ((Below.refl _ _).alloc (Nat.le_refl _) _).drew | exact (Below.refl _ _).drew.alloc (Nat.le_refl _) _) | go_keep)
    (fail)
  have hBz := ((Below.refl X.heap.size X).alloc (Nat.le_refl _) (.cells #[.int .i64 x0.th, .int .i64 x0.pl, .string (letS 97 [x0.k]), .string (letS 97 x0.hl), .int .i64 vx] 37)).drew
  have u0 := cell_later hBz q0
  have u1 := cell_later hBz q1
  have u2 := cell_later hBz q2
  have u3 := cell_later hBz q3
  have u4 := cell_later hBz q4
  have u5 := cell_later hBz q5
  have hF := cell_later hBz f0
  have hA3 := haX.below hBz
  obtain ⟨av, cv, hv⟩ : ∃ av cv, v = .slice av st.1.length cv := by
    rcases h.row.2 with ⟨rfl, h2⟩ | ⟨gg, cap, _, rfl, _⟩
    · exact ⟨none, 0, by rw [h2]⟩
    · exact ⟨_, cap, rfl⟩
  subst hv
  go_upto_region 3 with (first | (go_at_call 77; refine (HLd.out _ hF hA3).mono ?_; rintro e w3 ⟨rfl, hb3⟩))
  have h3 := ((h.later hB1).later hBz).later hb3
  have hw3 := hB1.trans ((hBz.trans (hb3.mono hBz.size)).mono hB1.size)
  have y1 : w3.cell? ⟨f, 1, none⟩ = some (.int .i64 most) := cellB h3.blk rfl
  have y2 : w3.cell? ⟨f, 2, none⟩ = some (.slice av st.1.length cv) := cellB h3.blk rfl
  have y3 : w3.cell? ⟨f, 3, none⟩ = some (.bool st.2) := cellB h3.blk rfl
  have hge : decide ((most : Int) ≤ (st.1.length : Int)) = false := decide_eq_false (by omega)
  have hge3 : decide (most ≤ st.1.length) = false := decide_eq_false (by omega)
  have hbA := hBz.trans (hb3.mono hBz.size)
  have t0 := cell_later hbA q0
  have t1 := cell_later hbA q1
  have t2 := cell_later hbA q2
  have t3 := cell_later hbA q3
  have t4 := cell_later hbA q4
  have t5 := cell_later hbA q5
  have zf : w3.frozen? ⟨f, 2, none⟩ = false := frozen_of_row _ _ 2 _ _ h3.blk
  clear q0 q1 q2 q3 q4 q5 u0 u1 u2 u3 u4 u5 c0 c1 c2 c3 c4 f0 hF
  go_quiet (fail)
  go_upto_region 5 with fail
  have h4 := h3.later (below_drewN w3 nq)
  have hw4 := hw3.trans ((below_drewN w3 nq).mono hw3.size)
  have v0 := cell_later (below_drewN w3 nq) t0
  have v1 := cell_later (below_drewN w3 nq) t1
  have v2 := cell_later (below_drewN w3 nq) t2
  have v3 := cell_later (below_drewN w3 nq) t3
  have v4 := cell_later (below_drewN w3 nq) t4
  have v5 := cell_later (below_drewN w3 nq) t5
  have y2' := cell_later (below_drewN w3 nq) y2
  have zf' : (w3.drewN nq).frozen? ⟨f, 2, none⟩ = false := frozen_of_row _ _ 2 _ _ h4.blk
  have HCH : Hid ([Value.int .i64 i0, .int .i64 (pAt p 1), .int .i64 (pAt p 2), .int .i64 (pAt p 3), .int .i64 (pAt p 4), .int .i64 p.length] = (chC p).toList) := HCP.out
  clear t0 t1 t2 t3 t4 t5 y1 y2 y3 zf h3 hw3 hge hge3 hbA hb3 HLd haX hA3 hBz hB1 ha
  generalize w3.drewN nq = w4 at *
  obtain ⟨i6, hi6, hz0, hz1, hz2⟩ := info_split infoCh
  have nb : some f ≠ (Value.slice av st.1.length cv).ownBlock := fun hh => by
    have := (World.ownsRow.lt h4.row f hh.symm).1
    omega
  have hrow := h4.row
  have htop := h4.top
  go_region_law
    ((refine step_append_lies _ (by rfl) _ _ _ (by rfl) (f + 1) 95 i6 _ 6 48 Tryd.underlying90 hi6 hz0 hz1 hz2 rfl (by omega) (.slice av st.1.length cv) st.1.length (chL st.1) (by rfl) ((hrow.alloc _).drew)
          ⟨w4.heap.size, 0, none⟩ 1 1 [.int .i64 i0, .int .i64 (pAt p 1), .int .i64 (pAt p 2), .int .i64 (pAt p 3), .int .i64 (pAt p 4), .int .i64 p.length] (by rfl) (by rfl) (World.news_of_block (cs := #[.int .i64 i0, .int .i64 (pAt p 1), .int .i64 (pAt p 2), .int .i64 (pAt p 3), .int .i64 (pAt p 4), .int .i64 p.length]) (t := 95) (fr := (0, 0)) (heap_alloc_new w4 _)) (by simp [Value.oneCell'])
          (by omega) (by unfold maxLen; omega) (by omega) (by simp; omega) (w4.heap.size + 1) (by simp) ?_; intro gg cap w5 hown5 hgrow hat hlt; have y5 := cell_append hgrow y2' nb; have z5 := frozen_append hgrow y2' zf' nb))
  all_goals
    go_wp2_with fail
    go_end0
    exact ⟨rfl, _, h4.added HCH.out hown5 hgrow, (Kp.ofBelow hw4).trans (kp_add _ hgrow hat)⟩
end Go.Proofs.YtdfndcbakcmgiabDoor
namespace Go.Proofs.YtdfndcbakcmgiabDoor

/-! Circles, pure: what the finder keeps are the chains that are circles, in their order. -/
abbrev hasB (la : List Aq) (i j : Nat) : Bool := shareB [(aqOf la i).k] (aqOf la j).hl
def closB (la : List Aq) (p : List Nat) : Bool := hasB la (pAt p (p.length - 1)) (pAt p 0)
def dfs (la : List Aq) : Nat → List Nat → List (List Nat)
  | 0, p => if closB la p = true then [p] else []
  | d + 1, p => (List.range la.length).flatMap fun k => if fitsB la p k = true then dfs la d (p ++ [k]) else []
/-- What a finder has when all of a list was offered. -/
def addS (most : Nat) (st : Fd) (l : List (List Nat)) : Fd := if st.2 = true then st else ((st.1 ++ l).take most, decide (most < (st.1 ++ l).length))
def StOk (most : Nat) (st : Fd) : Prop := st.1.length ≤ most
theorem addS_nil {most : Nat} {st : Fd} (h : StOk most st) : addS most st [] = st := by
  obtain ⟨c, b⟩ := st
  cases b with
  | true => rfl
  | false =>
    have h' : c.length ≤ most := h
    simp only [addS, List.append_nil, Bool.false_eq_true, if_false]
    rw [List.take_of_length_le h', decide_eq_false (by omega)]
theorem addS_ok {most : Nat} {st : Fd} (h : StOk most st) (l : List (List Nat)) : StOk most (addS most st l) := by
  unfold addS StOk
  split
  · exact h
  · simp; omega
theorem addS_append {most : Nat} {st : Fd} (h : StOk most st) (l m : List (List Nat)) : addS most (addS most st l) m = addS most st (l ++ m) := by
  obtain ⟨c, b⟩ := st
  cases b with
  | true => rfl
  | false =>
    have h' : c.length ≤ most := h
    simp only [addS, Bool.false_eq_true, if_false]
    by_cases hl : most < (c ++ l).length
    · rw [decide_eq_true hl]
      simp only [if_true]
      have h1 : ((c ++ (l ++ m)).take most) = (c ++ l).take most := by
        rw [← List.append_assoc, List.take_append_of_le_length (by omega)]
      rw [h1, decide_eq_true (by rw [← List.append_assoc, List.length_append]; omega)]
    · rw [decide_eq_false hl]
      simp only [Bool.false_eq_true, if_false]
      rw [show (c ++ l).take most = c ++ l from List.take_of_length_le (by omega), List.append_assoc]
theorem keepS_add {la : List Aq} {most : Nat} {st : Fd} (h : StOk most st) (hf : st.2 = false) (p : List Nat) : keepS la most st p = addS most st (if closB la p = true then [p] else []) := by
  obtain ⟨c, b⟩ := st
  cases hf
  have h' : c.length ≤ most := h
  unfold keepS closB hasB
  split
  · by_cases hm : most ≤ c.length
    · rw [if_pos hm]
      simp only [addS, Bool.false_eq_true, if_false]
      rw [List.take_append_of_le_length hm, List.take_of_length_le h', decide_eq_true (by simp; omega)]
    · rw [if_neg hm]
      simp only [addS, Bool.false_eq_true, if_false]
      rw [List.take_of_length_le (by simp; omega), decide_eq_false (by simp; omega)]
  · rw [addS_nil h]
theorem foldl_add {most : Nat} {A : Type} (g : A → List (List Nat)) (s : Fd → A → Fd) : ∀ (ks : List A) (st : Fd), StOk most st → (∀ st k, k ∈ ks → StOk most st → s st k = addS most st (g k)) → ks.foldl s st = addS most st (ks.flatMap g)
  | [], st, h, _ => by rw [List.flatMap_nil, addS_nil h]; rfl
  | k :: ks, st, h, hs => by
    rw [List.foldl_cons, hs st k (List.mem_cons_self ..) h, foldl_add g s ks _ (addS_ok h _) (fun st k hk => hs st k (List.mem_cons_of_mem _ hk)), List.flatMap_cons, addS_append h]
theorem addS_true {most : Nat} {st : Fd} (h : st.2 = true) (l : List (List Nat)) : addS most st l = st := by rw [addS, if_pos h]
theorem extS_add {la : List Aq} {most : Nat} : ∀ (d : Nat) (p : List Nat) (st : Fd), StOk most st → (d = 0 → st.2 = false) → extS la most d p st = addS most st (dfs la d p)
  | 0, p, st, h, h2 => keepS_add h (h2 rfl) p
  | d + 1, p, st, h, _ => by
    rw [extS, dfs]
    refine foldl_add _ _ _ st h fun st k _ h => ?_
    by_cases hb : st.2 = true
    · rw [if_pos hb, addS_true hb]
    · rw [if_neg hb]
      split
      · exact extS_add d (p ++ [k]) st h (fun _ => by simpa using hb)
      · rw [addS_nil h]
theorem findS_add (la : List Aq) (most : Nat) : findS la most = addS most ([], false) ([2, 3, 4, 5].flatMap fun n => dfs la n []) := by
  unfold findS
  refine foldl_add _ _ _ _ (Nat.zero_le _) fun st n hn h => extS_add n [] st h ?_
  intro h0
  subst h0
  simp at hn

/-! The reference's chains. -/
def okC (la : List Aq) (p : List Nat) (k : Nat) : Bool := (p.all fun j => !decide ((aqOf la j).th = (aqOf la k).th)) && (p.isEmpty || hasB la (pAt p (p.length - 1)) k)
def nextC (la : List Aq) (p : List Nat) : List (List Nat) := ((List.range la.length).filter (okC la p)).map fun k => p ++ [k]
def chn (la : List Aq) : Nat → List (List Nat)
  | 0 => [[]]
  | n + 1 => (chn la n).flatMap (nextC la)
def cf (la : List Aq) : Nat → List Nat → List (List Nat)
  | 0, p => [p]
  | d + 1, p => (nextC la p).flatMap (cf la d)
theorem cf_succ (la : List Aq) : ∀ d p, cf la (d + 1) p = (cf la d p).flatMap (nextC la)
  | 0, p => by simp [cf]
  | d + 1, p => by
    rw [cf, cf, List.flatMap_assoc]
    congr 1
    funext q
    exact cf_succ la d q
theorem chn_cf (la : List Aq) : ∀ n, chn la n = cf la n []
  | 0 => rfl
  | n + 1 => by rw [chn, chn_cf la n, cf_succ]

def GoodP (la : List Aq) (p : List Nat) : Prop :=
  (∀ i, i + 1 < p.length → hasB la (pAt p i) (pAt p (i + 1)) = true) ∧ ∀ i, i < p.length → (aqOf la (pAt p 0)).th ≤ (aqOf la (pAt p i)).th ∧ ∀ j, j < i → apartB (aqOf la (pAt p j)) (aqOf la (pAt p i)) = true
def CircP (la : List Aq) (p : List Nat) : Prop :=
  1 < p.length ∧ ∀ i, i < p.length → hasB la (pAt p i) (pAt p ((i + 1) % p.length)) = true ∧ (aqOf la (pAt p 0)).th ≤ (aqOf la (pAt p i)).th ∧ ∀ j, j < i → apartB (aqOf la (pAt p j)) (aqOf la (pAt p i)) = true
theorem pAt_app {p q : List Nat} {i : Nat} (h : i < p.length) : pAt (p ++ q) i = pAt p i := by
  unfold pAt; rw [List.getElem?_append_left h]
theorem pAt_last (p : List Nat) (k : Nat) : pAt (p ++ [k]) p.length = k := by
  unfold pAt; rw [List.getElem?_append_right (Nat.le_refl _)]; simp
theorem circP_iff (la : List Aq) (p : List Nat) (h1 : 1 < p.length) : CircP la p ↔ GoodP la p ∧ closB la p = true := by
  constructor
  · rintro ⟨_, h⟩
    refine ⟨⟨fun i hi => ?_, fun i hi => (h i hi).2⟩, ?_⟩
    · have := (h i (by omega)).1
      rwa [Nat.mod_eq_of_lt hi] at this
    · have := (h (p.length - 1) (by omega)).1
      rw [show p.length - 1 + 1 = p.length by omega, Nat.mod_self] at this
      exact this
  · rintro ⟨⟨h2, h3⟩, h4⟩
    refine ⟨h1, fun i hi => ⟨?_, h3 i hi⟩⟩
    by_cases hl : i + 1 < p.length
    · rw [Nat.mod_eq_of_lt hl]; exact h2 i hl
    · have : i = p.length - 1 := by omega
      subst this
      rw [show p.length - 1 + 1 = p.length by omega, Nat.mod_self]
      exact h4
theorem goodP_pre {la : List Aq} {p q : List Nat} (h : GoodP la (p ++ q)) : GoodP la p := by
  obtain ⟨h1, h2⟩ := h
  have hl : (p ++ q).length = p.length + q.length := List.length_append
  refine ⟨fun i hi => ?_, fun i hi => ⟨?_, fun j hj => ?_⟩⟩
  · have := h1 i (by omega)
    rwa [pAt_app (by omega), pAt_app (by omega)] at this
  · have := (h2 i (by omega)).1
    rwa [pAt_app (by omega), pAt_app (by omega)] at this
  · have := (h2 i (by omega)).2 j hj
    rwa [pAt_app (by omega), pAt_app (by omega)] at this
theorem mem_pAt {p : List Nat} {j : Nat} (h : j ∈ p) : ∃ i, i < p.length ∧ pAt p i = j := by
  obtain ⟨i, hi⟩ := List.mem_iff_getElem?.1 h
  exact ⟨i, (List.getElem?_eq_some_iff.1 hi).1, pAt_get hi⟩
theorem pAt_mem {p : List Nat} {i : Nat} (h : i < p.length) : pAt p i ∈ p := by
  unfold pAt; rw [List.getElem?_eq_getElem h]; exact List.getElem_mem h
theorem goodP_next {la : List Aq} {p : List Nat} (h : GoodP la p) (k : Nat) : GoodP la (p ++ [k]) ↔ fitsB la p k = true := by
  cases hp : p with
  | nil =>
    subst hp
    refine iff_of_true ⟨fun i hi => ?_, fun i hi => ⟨?_, fun j hj => ?_⟩⟩ rfl
    · simp at hi
    · have : i = 0 := by simpa using hi
      subst this; exact Nat.le_refl _
    · have : i = 0 := by simpa using hi
      omega
  | cons a b =>
    rw [← hp]
    have hpos : 0 < p.length := by rw [hp]; simp
    have hf : fitsB la p k = ((!decide ((aqOf la k).th < (aqOf la (pAt p 0)).th) && (p.all fun i => apartB (aqOf la i) (aqOf la k))) && hasB la (pAt p (p.length - 1)) k) := by
      rw [fitsB, hp]; rfl
    have hl : (p ++ [k]).length = p.length + 1 := by simp
    rw [hf, Bool.and_eq_true, Bool.and_eq_true, List.all_eq_true, Bool.not_eq_true', decide_eq_false_iff_not]
    clear hp hf
    constructor
    · rintro ⟨h1, h2⟩
      refine ⟨⟨?_, fun j hj => ?_⟩, ?_⟩
      · have := (h2 p.length (by omega)).1
        rw [pAt_app hpos, pAt_last] at this
        omega
      · obtain ⟨i, hi, rfl⟩ := mem_pAt hj
        have := (h2 p.length (by omega)).2 i hi
        rwa [pAt_app hi, pAt_last] at this
      · have := h1 (p.length - 1) (by omega)
        rwa [show p.length - 1 + 1 = p.length by omega, pAt_last, pAt_app (by omega)] at this
    · rintro ⟨⟨h1, h2⟩, h3⟩
      refine ⟨fun i hi => ?_, fun i hi => ?_⟩
      · by_cases hil : i + 1 < p.length
        · rw [pAt_app hil, pAt_app (by omega)]; exact h.1 i hil
        · have : i = p.length - 1 := by omega
          subst this
          rw [show p.length - 1 + 1 = p.length by omega, pAt_last, pAt_app (by omega)]
          exact h3
      · rw [pAt_app hpos]
        by_cases hil : i < p.length
        · rw [pAt_app hil]
          refine ⟨(h.2 i hil).1, fun j hj => ?_⟩
          rw [pAt_app (by omega)]
          exact (h.2 i hil).2 j hj
        · have : i = p.length := by omega
          subst this
          rw [pAt_last]
          refine ⟨by omega, fun j hj => ?_⟩
          rw [pAt_app hj]
          exact h2 _ (pAt_mem hj)
theorem fits_okC {la : List Aq} {p : List Nat} {k : Nat} (h : fitsB la p k = true) : okC la p k = true := by
  cases p with
  | nil => rfl
  | cons a b =>
    rw [fitsB] at h
    rw [okC]
    simp only [List.isEmpty_cons, Bool.false_or, Bool.and_eq_true] at h ⊢
    obtain ⟨⟨_, h2⟩, h3⟩ := h
    refine ⟨?_, h3⟩
    rw [List.all_eq_true] at h2 ⊢
    intro j hj
    have := h2 j hj
    rw [apartB, Bool.and_eq_true] at this
    exact this.1
theorem cf_pre (la : List Aq) : ∀ d p, ∀ q ∈ cf la d p, ∃ r, q = p ++ r ∧ r.length = d
  | 0, p, q, h => ⟨[], by rw [cf] at h; simpa using h, rfl⟩
  | d + 1, p, q, h => by
    rw [cf, List.mem_flatMap] at h
    obtain ⟨p', hp', hq⟩ := h
    obtain ⟨k, _, rfl⟩ := List.mem_map.1 hp'
    obtain ⟨r, rfl, hr⟩ := cf_pre la d _ q hq
    exact ⟨k :: r, by simp, by simp [hr]⟩
noncomputable def circB (la : List Aq) (p : List Nat) : Bool := @decide (CircP la p) (Classical.propDecidable _)
theorem circB_iff {la : List Aq} {p : List Nat} : circB la p = true ↔ CircP la p := by unfold circB; exact @decide_eq_true_iff _ (Classical.propDecidable _)
theorem cf_bad {la : List Aq} {d : Nat} {p : List Nat} (h1 : 1 < p.length + d) (h : ¬ GoodP la p) : (cf la d p).filter (circB la) = [] := by
  rw [List.filter_eq_nil_iff]
  intro q hq hc
  obtain ⟨r, rfl, hr⟩ := cf_pre la d p q hq
  have hc := circB_iff.1 hc
  exact h (goodP_pre ((circP_iff la _ (by simp; omega)).1 hc).1)
theorem flatMap_filter_map {A B : Type} (l : List A) (p : A → Bool) (f : A → B) (g : B → List (List Nat)) : ((l.filter p).map f).flatMap g = l.flatMap fun k => if p k = true then g (f k) else []
  := by
  induction l with
  | nil => rfl
  | cons a l ih =>
    rw [List.filter_cons, List.flatMap_cons]
    split
    · rw [List.map_cons, List.flatMap_cons, ih]
    · rw [ih]; rfl
theorem cf_dfs {la : List Aq} : ∀ (d : Nat) (p : List Nat), 1 < p.length + d → GoodP la p → (cf la d p).filter (circB la) = dfs la d p
  | 0, p, h1, h => by
    rw [cf, dfs, List.filter_cons]
    have : circB la p = closB la p := by
      rw [Bool.eq_iff_iff, circB_iff, circP_iff la p (by omega)]
      exact ⟨fun h => h.2, fun h' => ⟨h, h'⟩⟩
    rw [this, List.filter_nil]
  | d + 1, p, h1, h => by
    rw [cf, dfs, nextC, flatMap_filter_map, List.filter_flatMap]
    congr 1
    funext k
    by_cases hf : fitsB la p k = true
    · rw [if_pos hf, if_pos (fits_okC hf)]
      exact cf_dfs d (p ++ [k]) (by simp; omega) ((goodP_next h k).2 hf)
    · rw [if_neg hf]
      split
      · exact cf_bad (by simp; omega) fun hg => hf ((goodP_next h k).1 hg)
      · rfl
theorem chn_dfs (la : List Aq) (n : Nat) (hn : 1 < n) : (chn la n).filter (circB la) = dfs la n [] := by
  rw [chn_cf]
  exact cf_dfs n [] (by simpa using hn) ⟨fun i hi => by simp at hi, fun i hi => by simp at hi⟩
theorem len_filter_ne (a : Nat) : ∀ (l : List Nat), l.Nodup → l.length ≤ (l.filter fun x => decide (x ≠ a)).length + 1
  | [], _ => by simp
  | x :: l, h => by
    rw [List.nodup_cons] at h
    rw [List.filter_cons]
    by_cases hx : x = a
    · subst hx
      have : (l.filter fun y => decide (y ≠ x)) = l := List.filter_eq_self.2 fun y hy => decide_eq_true (fun he => h.1 (he ▸ hy))
      rw [if_neg (by simp), this]
      simp
    · rw [if_pos (by simpa using hx)]
      have := len_filter_ne a l h.2
      simp only [List.length_cons]
      omega
theorem nodup_le : ∀ (N : Nat) (l : List Nat), l.Nodup → (∀ x ∈ l, x < N) → l.length ≤ N
  | 0, l, _, h => by
    cases l with
    | nil => exact Nat.le_refl _
    | cons x l => exact absurd (h x (List.mem_cons_self ..)) (Nat.not_lt_zero _)
  | N + 1, l, hn, h => by
    have h1 := len_filter_ne N l hn
    have h2 := nodup_le N (l.filter fun x => decide (x ≠ N)) (hn.filter _) fun x hx => by
      have := List.mem_filter.1 hx
      have h3 := h x this.1
      have h4 : x ≠ N := of_decide_eq_true this.2
      omega
    omega
theorem cf_in (la : List Aq) : ∀ d p, (∀ i ∈ p, i < la.length) → ∀ q ∈ cf la d p, ∀ i ∈ q, i < la.length
  | 0, p, hp, q, h => by rw [cf, List.mem_singleton] at h; rw [h]; exact hp
  | d + 1, p, hp, q, h => by
    rw [cf, List.mem_flatMap] at h
    obtain ⟨p', hp', hq⟩ := h
    obtain ⟨k, hk, rfl⟩ := List.mem_map.1 hp'
    have hkl : k < la.length := by simpa using (List.mem_filter.1 hk).1
    refine cf_in la d _ (fun i hi => ?_) q hq
    rcases List.mem_append.1 hi with hi | hi
    · exact hp i hi
    · rw [List.mem_singleton.1 hi]; exact hkl
theorem aqOf_mem {la : List Aq} {i : Nat} (h : i < la.length) : aqOf la i ∈ la := by
  rw [aqOf, List.getElem?_eq_getElem h]; exact List.getElem_mem h
/-- No circle has more asks than there are threads. -/
theorem circ_len {la : List Aq} {N : Nat} (hth : ∀ x ∈ la, x.th < N) {q : List Nat} (hin : ∀ i ∈ q, i < la.length) (h : GoodP la q) : q.length ≤ N := by
  have h1 : (q.map fun i => (aqOf la i).th).Nodup := by
    rw [List.Nodup, List.pairwise_map, List.pairwise_iff_getElem]
    intro i j hi hj hij he
    have := (h.2 j hj).2 i hij
    have e1 : pAt q i = q[i] := pAt_get (List.getElem?_eq_getElem hi)
    have e2 : pAt q j = q[j] := pAt_get (List.getElem?_eq_getElem hj)
    rw [e1, e2, apartB, decide_eq_true he] at this
    cases this
  have h2 := nodup_le N _ h1 fun x hx => by
    obtain ⟨i, hi, rfl⟩ := List.mem_map.1 hx
    exact hth _ (aqOf_mem (hin i hi))
  simpa using h2
theorem dfs_nil {la : List Aq} {N : Nat} (hth : ∀ x ∈ la, x.th < N) (n : Nat) (h1 : 1 < n) (hn : N < n) : dfs la n [] = [] := by
  rw [← chn_dfs la n h1, List.filter_eq_nil_iff]
  intro q hq hc
  rw [chn_cf] at hq
  obtain ⟨r, hr0, hr⟩ := cf_pre la n [] q hq
  rw [List.nil_append] at hr0
  subst hr0
  have := circ_len hth (cf_in la n [] (fun i hi => by cases hi) q hq) ((circP_iff la _ (by omega)).1 (circB_iff.1 hc)).1
  omega
/-- All circles, in their order, of an asks' list of N threads. -/
noncomputable def allC (la : List Aq) (N : Nat) : List (List Nat) := (List.range' 2 (N - 1)).flatMap fun n => (chn la n).filter (circB la)
theorem dfs_all {la : List Aq} {N : Nat} (hN : N ≤ 5) (hth : ∀ x ∈ la, x.th < N) : ([2, 3, 4, 5].flatMap fun n => dfs la n []) = allC la N := by
  have e : ∀ n, 1 < n → (chn la n).filter (circB la) = dfs la n [] := fun n hn => chn_dfs la n hn
  unfold allC
  match N, hN with
  | 0, _ => simp [dfs_nil hth]
  | 1, _ => simp [dfs_nil hth]
  | 2, _ => simp [dfs_nil hth, e]
  | 3, _ => simp [dfs_nil hth, e, List.range']
  | 4, _ => simp [dfs_nil hth, e, List.range']
  | 5, _ => simp [e, List.range']
end Go.Proofs.YtdfndcbakcmgiabDoor
namespace Go.Proofs.YtdfndcbakcmgiabDoor

/-! The asks of a world, by numbers. -/
def hlOf (b : ByteArray) : List Nat := b.data.toList.map fun x => x.toNat - 97
theorem hlOf_let (l : List Nat) (h : ∀ x ∈ l, x < 6) : hlOf (letS 97 l) = l := by
  have : ∀ (m : List Nat), (∀ x ∈ m, x < 6) → (m.map fun k => UInt8.ofNat (97 + k)).map (fun x : UInt8 => x.toNat - 97) = m := by
    intro m hm
    induction m with
    | nil => rfl
    | cons a m ih =>
      rw [List.map_cons, List.map_cons, ih fun x hx => hm x (List.mem_cons_of_mem _ hx)]
      have ha := hm a (List.mem_cons_self ..)
      congr 1
      rw [UInt8.toNat_ofNat']
      omega
  exact this l h
def LogHl (log : List Ev) : Prop := ∀ v ∈ log, ∃ has t, v.holds = letS 97 (heldL has t)
theorem toLoop_logHl (sch : ByteArray) : ∀ (n k : Nat) (W0 W : Wd), sch.size - k = n → LogHl W0.log → toLoop sch W0 k = some W → LogHl W.log := by
  intro n
  induction n with
  | zero =>
    intro k W0 W hn hL h
    rw [toLoop, if_neg (by omega)] at h
    cases h; exact hL
  | succ n ih =>
    intro k W0 W hn hL h
    rw [toLoop, if_pos (by omega)] at h
    split at h
    · refine ih (k + 1) _ W (by omega) ?_ h
      rw [moveT_evAt]
      intro v hv
      rcases List.mem_append.1 hv with hv | hv
      · exact hL v hv
      · simp only [List.mem_singleton] at hv
        subst hv
        exact ⟨_, _, holdsOf_held _ _⟩
    · cases h
theorem wantsE_hl (W : Wd) (t : Nat) : LogHl (wantsE W t) := by
  intro v hv
  simp only [wantsE, List.mem_map] at hv
  obtain ⟨u, _, rfl⟩ := hv
  exact ⟨_, _, holdsOf_held _ _⟩
def aqE (e : Ev) (o : Option Nat) : Aq := ⟨e.thread.toNat, e.place.toNat, (stpOf e.txt).which.toNat, hlOf e.holds, o⟩
structure AskOk (N : Nat) (e : Ev) : Prop where
  ok : EvOk N e
  kind : (stpOf e.txt).kind = 1
  pl : ∃ p : Nat, e.place = p
  hl : ∃ has t, e.holds = letS 97 (heldL has t)
theorem held6 (has : List (Option Nat)) (t : Nat) : ∀ x ∈ heldL has t, x < 6 := fun _ hx => (heldL_mem.1 hx).1
theorem aqE_ak {N : Nat} {e : Ev} (h : AskOk N e) (o : Option Nat) : (aqE e o).ak = askE e (evI o) := by
  obtain ⟨t, ht, _⟩ := h.ok.th
  obtain ⟨k, hk6, hk, htx⟩ := lock_txt h.ok.dok h.kind
  obtain ⟨p, hp⟩ := h.pl
  obtain ⟨has, u, hh⟩ := h.hl
  have e1 : lockT k = letS 97 [k] := rfl
  simp only [aqE, Aq.ak, askE, ht, hp, hk, hh, hlOf_let _ (held6 has u), Int.toNat_natCast]
  rw [htx, e1]
theorem aqE_ok {N : Nat} (hN : N ≤ 5) {e : Ev} (h : AskOk N e) (o : Option Nat) (ho : ∀ n, o = some n → n < 60) : (aqE e o).Ok ∧ (aqE e o).th < N := by
  obtain ⟨t, ht, htN⟩ := h.ok.th
  obtain ⟨k, hk6, hk, htx⟩ := lock_txt h.ok.dok h.kind
  obtain ⟨has, u, hh⟩ := h.hl
  have e1 : (aqE e o).th = t := by simp only [aqE, ht, Int.toNat_natCast]
  have e2 : (aqE e o).hl = heldL has u := by simp only [aqE, hh, hlOf_let _ (held6 has u)]
  refine ⟨⟨by omega, ?_, ?_, ?_, ho⟩, by omega⟩
  · simp only [aqE, hk, Int.toNat_natCast]; exact hk6
  · rw [e2]; exact held6 has u
  · rw [e2]; exact heldL_len has u
def aqs1 (log : List Ev) : Nat → List Aq
  | 0 => []
  | t + 1 => aqs1 log t ++ ((log[t]?.map fun e => if takeB e = true then [aqE e (some t)] else []).getD [])
def aqs2 (l : List Ev) : List Aq := l.map fun e => aqE e none
def aqsW (W : Wd) : List Aq := aqs1 W.log W.log.length ++ aqs2 (wantsE W W.prog.length)
theorem aqs1_mem {log : List Ev} {x : Aq} : ∀ {t : Nat}, x ∈ aqs1 log t ↔ ∃ i e, i < t ∧ log[i]? = some e ∧ takeB e = true ∧ x = aqE e (some i)
  | 0 => by simp [aqs1]
  | t + 1 => by
    rw [aqs1, List.mem_append, aqs1_mem (t := t)]
    constructor
    · rintro (⟨i, e, h1, h2⟩ | h)
      · exact ⟨i, e, by omega, h2⟩
      · cases he : log[t]? with
        | none => rw [he] at h; simp at h
        | some e =>
          rw [he] at h
          simp only [Option.map_some, Option.getD_some] at h
          split at h
          · rename_i hb; exact ⟨t, e, by omega, he, hb, List.mem_singleton.1 h⟩
          · cases h
    · rintro ⟨i, e, h1, h2, h3, h4⟩
      by_cases hi : i < t
      · exact .inl ⟨i, e, hi, h2, h3, h4⟩
      · have : i = t := by omega
        subst this
        right
        rw [h2]
        simp only [Option.map_some, Option.getD_some, if_pos h3, h4, List.mem_singleton]
theorem aqs1_ak {N : Nat} {log : List Ev} (h : ∀ e ∈ log, takeB e = true → AskOk N e) : ∀ t, (aqs1 log t).map Aq.ak = asks1 log t
  | 0 => rfl
  | t + 1 => by
    rw [aqs1, asks1, List.map_append, aqs1_ak h t]
    congr 1
    cases he : log[t]? with
    | none => rfl
    | some e =>
      simp only [Option.map_some, Option.getD_some]
      by_cases hb : takeB e = true
      · rw [if_pos hb, if_pos hb, List.map_cons, List.map_nil, aqE_ak (h e (List.mem_of_getElem? he) hb)]; rfl
      · rw [if_neg hb, if_neg hb]; rfl
structure AskW (W : Wd) : Prop where
  lg : ∀ e ∈ W.log, takeB e = true → AskOk W.prog.length e
  wt : ∀ e ∈ wantsE W W.prog.length, AskOk W.prog.length e
theorem askW_of {W : Wd} (G : W.Good) (hL : LogOk W) (hP : LogPl W.log) (hH : LogHl W.log) : AskW W :=
  ⟨fun e he hb => ⟨hL e he, of_decide_eq_true hb, hP e he, hH e he⟩, fun e he => ⟨(wantsE_ok G e he).1, (wantsE_ok G e he).2, wantsE_pl W _ e he, wantsE_hl W _ e he⟩⟩
theorem aqsW_ak {W : Wd} (A : AskW W) : (aqsW W).map Aq.ak = asksW W := by
  rw [aqsW, asksW, List.map_append, aqs1_ak A.lg, aqs2, asks2, List.take_length, List.map_map]
  congr 1
  refine List.map_congr_left fun e he => ?_
  exact aqE_ak (A.wt e he) none
theorem aqsW_mem {W : Wd} {x : Aq} : x ∈ aqsW W ↔ (∃ i e, W.log[i]? = some e ∧ takeB e = true ∧ x = aqE e (some i)) ∨ ∃ e, e ∈ wantsE W W.prog.length ∧ x = aqE e none := by
  rw [aqsW, List.mem_append, aqs1_mem, aqs2, List.mem_map]
  refine or_congr ⟨?_, ?_⟩ ⟨?_, ?_⟩
  · rintro ⟨i, e, _, h⟩; exact ⟨i, e, h⟩
  · rintro ⟨i, e, h⟩; exact ⟨i, e, (List.getElem?_eq_some_iff.1 h.1).1, h⟩
  · rintro ⟨e, h1, h2⟩; exact ⟨e, h1, h2.symm⟩
  · rintro ⟨e, h1, h2⟩; exact ⟨e, h1, h2.symm⟩
theorem aqsW_ok {W : Wd} (A : AskW W) (hN : W.prog.length ≤ 5) (hl : W.log.length ≤ 60) : ∀ x ∈ aqsW W, x.Ok ∧ x.th < W.prog.length := by
  intro x hx
  rcases aqsW_mem.1 hx with ⟨i, e, h1, h2, rfl⟩ | ⟨e, h1, rfl⟩
  · refine aqE_ok hN (A.lg e (List.mem_of_getElem? h1) h2) _ fun n hn => ?_
    cases hn
    have := (List.getElem?_eq_some_iff.1 h1).1
    omega
  · exact aqE_ok hN (A.wt e h1) _ fun n hn => by cases hn
theorem aqsW_ev {W : Wd} : ∀ x ∈ aqsW W, ∀ m, x.ev = some m → m < W.log.length := by
  intro x hx m hm
  rcases aqsW_mem.1 hx with ⟨i, e, h1, h2, rfl⟩ | ⟨e, h1, rfl⟩
  · cases hm; exact (List.getElem?_eq_some_iff.1 h1).1
  · cases hm
end Go.Proofs.YtdfndcbakcmgiabDoor
