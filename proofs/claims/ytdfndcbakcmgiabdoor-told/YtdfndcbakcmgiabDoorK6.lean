import Derived.Test.YtdfndcbakcmgiabDoorK1
import Derived.Deep.RegionLaw
import Derived.Deep.AppendLies
import Derived.Deep.QuietTactic
namespace Go.Proofs.YtdfndcbakcmgiabDoor
open Go.RowKit

def loadP (p : Value) : Sem Value := Instr.loadAt 106 p
theorem loadP_fold (p : Value) : Instr.loadAt 106 p = loadP p := rfl
theorem infoP : (Tryd.prog.info? 106).map (·.size) = some 23 := by kernel_rfl
theorem loadP_mid {w : World} {g o : Nat} {x : Sp} (ok : x.1.Ok) (h : ∀ i v, (spC x).toList[i]? = some v → w.cell? ⟨g, o + i, none⟩ = some v) : (loadP (.pointer (some ⟨g, o, none⟩))).run Tryd.prog w = .ok (.agg (spC x)) w := by
  have h23 : (spC x).toList.length = 23 := by rw [Array.length_toList]; exact spC_size ok
  have := run_loadAt_mid (P := Tryd.prog) w g o 106 (spC x).toList _ h Tryd.underlying106 rfl (by rw [h23]; exact infoP)
  simpa [loadP] using this
theorem box_cells {w : World} {b : Nat} {cs : Array Value} {t : TypeId} (h : w.heap[b]? = some (.cells cs t (0, 0))) : ∀ i v, cs.toList[i]? = some v → w.cell? ⟨b, 0 + i, none⟩ = some v := fun i v hv => by
  rw [Nat.zero_add]; exact cellB h (by simpa using hv)

theorem fold_set : ∀ (l : List Value) (k : Nat) (z : Array Value), z.size = k + l.length → (l.zipIdx k).foldl (fun (a : Array Value) (x : Value × Nat) => a.setIfInBounds x.2 x.1) z = (z.toList.take k ++ l).toArray
  | [], k, z, h => by
    simp only [List.zipIdx_nil, List.foldl_nil, List.append_nil]
    rw [List.take_of_length_le (by simpa using Nat.le_of_eq h)]
  | v :: l, k, z, h => by
    have hk : k < z.size := by simp only [List.length_cons] at h; omega
    rw [List.zipIdx_cons, List.foldl_cons, fold_set l (k + 1) _ (by simp only [List.length_cons] at h; simp; omega)]
    congr 1
    rw [Array.toList_setIfInBounds, List.take_add_one, List.getElem?_set_self (by simpa using hk), List.take_set_of_le (Nat.le_refl _)]
    simp
theorem fold23 (z cs : Array Value) (hz : z.size = 23) (hc : cs.size = 23) : Array.foldl (fun (a : Array Value) (x : Value × Nat) => a.setIfInBounds x.2 x.1) z cs.zipIdx 0 23 = cs := by
  have hs : cs.zipIdx.size = 23 := by simpa using hc
  rw [show (23 : Nat) = cs.zipIdx.size from hs.symm, ← Array.foldl_toList, Array.toList_zipIdx, fold_set cs.toList 0 z (by simp [hz, hc])]
  simp

attribute [local go_sem ↓] loadS_fold loadP_fold
set_option maxRecDepth 100000 in
set_option maxHeartbeats 1000000 in
theorem put_no (f : Nat) (w0 w : World) (v : Value) (Q : List Sp) (hq : Q.length ≤ 10000) (h : LI w0 w f v Q) (x : Sp) (ok : x.1.Ok) (hin : ∃ y ∈ Q, y.1 = x.1) :
    Calls Tryd.prog 35 #[.pointer (some ⟨f, 0, none⟩), .agg (spC x)] w fun e w' => e = .returned (.tuple #[]) ∧ LI w0 w' f v Q ∧ Kq f v v w w' := by
  have hB0 : Below w.heap.size w (w.alloc (.cells (spC x) 106)) := (Below.refl _ _).alloc (Nat.le_refl _) _
  have hbk := heap_alloc_new w (.cells (spC x) 106)
  have hld : (loadS (.pointer (some ⟨w.heap.size, 0, none⟩))).run Tryd.prog (w.alloc (.cells (spC x) 106)) = .ok (.agg x.1.cells) (w.alloc (.cells (spC x) 106)) := loadS_mid ok fun i u hu => box_cells hbk i u (spC_st hu)
  have h1 := h.later hB0
  have hHas := has_any f w0 _ v Q hq h1 x.1 ok true (by simpa using hin)
  generalize hX : w.alloc (.cells (spC x) 106) = X at *
  have HX := show Hid _ from hX
  generalize spC x = cs at *
  clear hX hbk
  go_enter Tryd.func35, Tryd.ntmps35
  go_upto_region 1 with fail
  rw [HX.out]
  go_wp2_with (first | (go_at_call 51; refine hHas.mono ?_; rintro e w3 ⟨rfl, hb3⟩))
  go_end0
  exact ⟨rfl, h1.later hb3, Kq.ofBelow (hB0.trans (hb3.mono hB0.size))⟩

theorem LI.added {w0 w4 w5 : World} {f : Nat} {v : Value} {Q : List Sp} (h : LI w0 w4 f v Q) {o : Obj} {gg cap : Nat} {x : Sp} (ok : x.1.Ok)
    (hown : w5.ownsRow (f + 1) 106 23 (.slice (some ⟨gg, 0, none⟩) (Q.length + 1) cap) (Q.length + 1) (stL Q ++ (spC x).toList)) (hg : ((w4.alloc o).drew).grownBy w5 v.ownBlock) :
    LI w0 (w5.setCell ⟨f, 0, none⟩ (.slice (some ⟨gg, 0, none⟩) (Q.length + 1) cap)) f (.slice (some ⟨gg, 0, none⟩) (Q.length + 1) cap) (Q ++ [x]) := by
  have nb : some f ≠ v.ownBlock := fun hh => by
    have := (World.ownsRow.lt h.row f hh.symm).1
    omega
  have hgl := World.ownsRow.lt hown gg rfl
  have htop := h.top
  have hB : Below f w0 w5 := (h.below.alloc (Nat.le_trans (Nat.le_of_lt h.top) (Nat.le_refl _)) o).drew.grown hg (by simp; omega) (fun k hk => by have := (World.ownsRow.lt h.row k hk).1; omega)
  have hbl : w5.heap[f]? = some (.cells #[v] 102) := by
    rw [hg.block f (by show f < (w4.heap.push o).size; simp; omega) nb]
    show (w4.heap.push o)[f]? = _
    rw [Array.getElem?_push_lt htop, ← h.blk]
    simp [htop]
  refine ⟨hB.setCell (Nat.le_refl _) _, by simp; omega, by rw [heap_setCell_same w5 f 0 _ _ _ hbl]; rfl, ?_, fun y hy => ?_⟩
  · rw [setCell_eq_setRow w5 f 0 _ _ _ _ hbl]
    have hch : stL (Q ++ [x]) = stL Q ++ (spC x).toList := by simp [stL]
    rw [List.length_append, hch]
    exact hown.kept ⟨by simp, by simp, by simp, by simp, fun k _ hk => setRow_other w5 f k _ (fun e => hk (by rw [e]))⟩ (.inr (by simp [Value.ownBlock]; omega))
  · rcases List.mem_append.1 hy with hy | hy
    · exact h.ok y hy
    · rw [List.mem_singleton.1 hy]; exact ok
theorem kq_add {w4 w5 : World} {f : Nat} {v : Value} {o : Obj} {gg n cap : Nat} (u : Value) (hg : ((w4.alloc o).drew).grownBy w5 v.ownBlock) (hat : v.ownBlock = some gg ∨ gg = w4.heap.size + 1) :
    Kq f v (.slice (some ⟨gg, 0, none⟩) n cap) w4 (w5.setCell ⟨f, 0, none⟩ u) := by
  have hs := hg.size
  have hs2 : ((w4.alloc o).drew).heap.size = w4.heap.size + 1 := by simp
  refine ⟨by simp; omega, fun b hb hf hv => ?_, ?_⟩
  · rw [Below.heap_setCell _ _ _ _ hf, hg.block b (by omega) hv]
    exact heap_alloc_old w4 o hb
  · rcases hat with h | h
    · exact .inl h.symm
    · exact .inr ⟨gg, rfl, by omega⟩
theorem infoPz : ∃ i, Tryd.prog.info? 106 = some i ∧ i.zero = some (.agg (zeroS ++ #[.string ⟨#[]⟩])) ∧ i.size = 23 ∧ i.bytes = 120 := by
  have h : (Tryd.prog.info? 106).map (fun i => (i.zero, i.size, i.bytes)) = some (some (.agg (zeroS ++ #[.string ⟨#[]⟩])), 23, 120) := by kernel_rfl
  obtain ⟨i, h1, h2⟩ := Option.map_eq_some_iff.1 h
  simp only [Prod.mk.injEq] at h2
  exact ⟨i, h1, h2.1, h2.2.1, h2.2.2⟩

set_option maxRecDepth 100000 in
set_option maxHeartbeats 1000000 in
theorem put_add (f : Nat) (w0 w : World) (v : Value) (Q : List Sp) (hq : Q.length ≤ 10000) (h : LI w0 w f v Q) (x : Sp) (ok : x.1.Ok) (hin : ¬ ∃ y ∈ Q, y.1 = x.1) :
    Calls Tryd.prog 35 #[.pointer (some ⟨f, 0, none⟩), .agg (spC x)] w fun e w' => e = .returned (.tuple #[]) ∧ ∃ v', LI w0 w' f v' (Q ++ [x]) ∧ Kq f v v' w w' := by
  have hB0 : Below w.heap.size w (w.alloc (.cells (spC x) 106)) := (Below.refl _ _).alloc (Nat.le_refl _) _
  have hbk := heap_alloc_new w (.cells (spC x) 106)
  have hld : (loadS (.pointer (some ⟨w.heap.size, 0, none⟩))).run Tryd.prog (w.alloc (.cells (spC x) 106)) = .ok (.agg x.1.cells) (w.alloc (.cells (spC x) 106)) := loadS_mid ok fun i u hu => box_cells hbk i u (spC_st hu)
  have hlp : ∀ w', Below (w.alloc (.cells (spC x) 106)).heap.size (w.alloc (.cells (spC x) 106)) w' → (loadP (.pointer (some ⟨w.heap.size, 0, none⟩))).run Tryd.prog w' = .ok (.agg (spC x)) w' := fun w' hw => loadP_mid ok fun i u hu => cell_later hw (box_cells hbk i u hu)
  have HLP := show Hid _ from hlp
  have h1 := h.later hB0
  have hHas := has_any f w0 _ v Q hq h1 x.1 ok false (by simpa using hin)
  have h23 := spC_size ok
  have HOne : Hid (∀ u ∈ (spC x).toList, u.oneCell' = true) := fun u hu => by
    simp only [spC, List.mem_append, List.mem_singleton] at hu
    rcases hu with hu | hu
    · exact MS.cells_one (s := x.1) u (by simpa [MS.cells] using hu)
    · rw [hu]; rfl
  generalize hX : w.alloc (.cells (spC x) 106) = X at *
  have HX := show Hid _ from hX
  have HAd : Hid (∀ {w4 w5 : World} {o : Obj} {gg cap : Nat}, LI w0 w4 f v Q → w5.ownsRow (f + 1) 106 23 (.slice (some ⟨gg, 0, none⟩) (Q.length + 1) cap) (Q.length + 1) (stL Q ++ (spC x).toList) → ((w4.alloc o).drew).grownBy w5 v.ownBlock → LI w0 (w5.setCell ⟨f, 0, none⟩ (.slice (some ⟨gg, 0, none⟩) (Q.length + 1) cap)) f (.slice (some ⟨gg, 0, none⟩) (Q.length + 1) cap) (Q ++ [x])) := fun hh h2 h3 => hh.added ok h2 h3
  generalize spC x = cs at *
  obtain ⟨av, cv, hv, _⟩ := h1.form
  subst hv
  clear hX hbk hlp
  go_enter Tryd.func35, Tryd.ntmps35
  go_upto_region 1 with fail
  rw [HX.out]
  go_upto_region 2 with (first | (go_at_call 51; refine hHas.mono ?_; rintro e w3 ⟨rfl, hb3⟩))
  have h3 := h1.later hb3
  have hw3 := hB0.trans (hb3.mono hB0.size)
  have y0 : w3.cell? ⟨f, 0, none⟩ = some (.slice av Q.length cv) := cellB h3.blk rfl
  have zf : w3.frozen? ⟨f, 0, none⟩ = false := frozen_of_row _ _ 0 _ _ h3.blk
  have lp3 := HLP.out w3 hb3
  have lp3d := HLP.out w3.drew hb3.drew
  obtain ⟨i6, hi6, hz0, hz1, hz2⟩ := infoPz
  have nb : some f ≠ (Value.slice av Q.length cv).ownBlock := fun hh => by
    have := (World.ownsRow.lt h3.row f hh.symm).1
    omega
  have hrow := h3.row
  have htop := h3.top
  clear hHas hld h h1 hB0 hb3
  have hfold := fold23 #[.bool false, .bool false, .bool false, .bool false, .bool false, .int .i64 0, .int .i64 0, .int .i64 0, .int .i64 0, .int .i64 0, .int .i64 0, .int .i64 0, .int .i64 0, .int .i64 0, .int .i64 0, .int .i64 0, .bool false, .bool false, .bool false, .bool false, .bool false, .bool false, .string ⟨#[]⟩] cs rfl h23
  go_region_law
    ((refine step_append_lies _ (by rfl) _ _ _ (by rfl) (f + 1) 106 i6 _ 23 120 Tryd.underlying100 hi6 hz0 hz1 hz2 rfl (by omega) (.slice av Q.length cv) Q.length (stL Q) (by rfl) ((hrow.alloc _).drew)
          ⟨w3.heap.size, 0, none⟩ 1 1 cs.toList (by rfl) (by simpa using h23) (World.news_of_block (cs := cs) (t := 106) (fr := (0, 0)) (heap_alloc_new w3 _)) HOne.out
          (by omega) (by unfold maxLen; omega) (by omega) (by simp; omega) (w3.heap.size + 1) (by simp) ?_; intro gg cap w5 hown5 hgrow hat hlt; have y5 := cell_append hgrow y0 nb; have z5 := frozen_append hgrow y0 zf nb))
  all_goals
    go_wp2_with fail
    go_end0
    exact ⟨rfl, _, HAd.out h3 hown5 hgrow, (Kq.ofBelow hw3).trans (kq_add _ hgrow hat)⟩
end Go.Proofs.YtdfndcbakcmgiabDoor
namespace Go.Proofs.YtdfndcbakcmgiabDoor
open Go.RowKit

def spN (x : Nd) : Sp := (msOf x.W, x.l)
def spL (Q : List Nd) : List Sp := Q.map spN
theorem put_any (f : Nat) (w0 w : World) (v : Value) (Q : List Nd) (hq : Q.length ≤ 10000) (h : LI w0 w f v (spL Q)) (x : Nd) (ok : (msOf x.W).Ok) (cs : Array Value) (hcs : cs = spC (spN x)) :
    Calls Tryd.prog 35 #[.pointer (some ⟨f, 0, none⟩), .agg cs] w fun e w' => e = .returned (.tuple #[]) ∧ ∃ v', LI w0 w' f v' (spL (putQ Q x)) ∧ Kq f v v' w w' := by
  subst hcs
  have hl : (spL Q).length ≤ 10000 := by rw [spL, List.length_map]; exact hq
  have hiff : (∃ y ∈ spL Q, y.1 = (spN x).1) ↔ ∃ y ∈ Q, msOf y.W = msOf x.W := by
    constructor
    · rintro ⟨y, hy, e⟩
      obtain ⟨z, hz, rfl⟩ := List.mem_map.1 hy
      exact ⟨z, hz, e⟩
    · rintro ⟨z, hz, e⟩
      exact ⟨spN z, List.mem_map.2 ⟨z, hz, rfl⟩, e⟩
  by_cases hin : ∃ y ∈ Q, msOf y.W = msOf x.W
  · rw [putQ_yes hin]
    exact (put_no f w0 w v (spL Q) hl h (spN x) ok (hiff.2 hin)).mono fun _ _ ⟨h1, h2, h3⟩ => ⟨h1, v, h2, h3⟩
  · rw [putQ_no hin]
    have e : spL (Q ++ [x]) = spL Q ++ [spN x] := by simp [spL]
    rw [e]
    exact put_add f w0 w v (spL Q) hl h (spN x) ok (fun hh => hin (hiff.1 hh))

theorem fold_set2 : ∀ (l : List Value) (k : Nat) (z : Array Value), k + l.length ≤ z.size → (l.zipIdx k).foldl (fun (a : Array Value) (x : Value × Nat) => a.setIfInBounds x.2 x.1) z = (z.toList.take k ++ (l ++ z.toList.drop (k + l.length))).toArray
  | [], k, z, h => by
    simp only [List.zipIdx_nil, List.foldl_nil, List.nil_append, List.length_nil, Nat.add_zero, List.take_append_drop]
  | v :: l, k, z, h => by
    simp only [List.length_cons] at h
    have hk : k < z.size := by omega
    rw [List.zipIdx_cons, List.foldl_cons, fold_set2 l (k + 1) _ (by simp; omega)]
    congr 1
    rw [Array.toList_setIfInBounds, List.take_add_one, List.getElem?_set_self (by simpa using hk), List.take_set_of_le (Nat.le_refl _), List.drop_set_of_lt (by omega)]
    simp [Nat.add_comm, Nat.add_left_comm]
theorem build23 (s : MS) (ok : s.Ok) (y : ByteArray) : (Array.foldl (fun (a : Array Value) (x : Value × Nat) => a.setIfInBounds x.2 x.1) #[.bool false, .bool false, .bool false, .bool false, .bool false, .int .i64 0, .int .i64 0, .int .i64 0, .int .i64 0, .int .i64 0, .int .i64 0, .int .i64 0, .int .i64 0, .int .i64 0, .int .i64 0, .int .i64 0, .bool false, .bool false, .bool false, .bool false, .bool false, .bool false, .string ⟨#[]⟩] s.cells.zipIdx 0 s.cells.size).setIfInBounds 22 (.string y) = (s.list ++ [Value.string y]).toArray := by
  have h22 : s.list.length = 22 := by have := MS.cells_size ok; simpa [MS.cells] using this
  have hsz : s.cells.size = s.cells.zipIdx.size := by simp
  rw [hsz, ← Array.foldl_toList, Array.toList_zipIdx, fold_set2 s.cells.toList 0 _ (by simp [MS.cells, h22])]
  have e : s.cells.toList = s.list := by simp [MS.cells]
  rw [e]
  apply Array.ext'
  rw [Array.toList_setIfInBounds]
  simp only [List.take_zero, List.nil_append, Nat.zero_add, h22]
  rw [List.set_append, if_neg (by omega), h22]
  rfl

attribute [local go_sem ↓] loadS_fold storeS_fold zeroS_fold loadP_fold
set_option maxRecDepth 100000 in
set_option maxHeartbeats 1000000 in
theorem putMoves_any (f : Nat) (w0 : World) (hf : Hid (f = w0.heap.size)) (V : Value) (B : Nat) (W0 : Wd) (hn5 : W0.prog.length ≤ 5) (hp0 : ProgIn w0 B V (progL W0)) (x : Nd) (hx : x.Ok W0) (w : World) (v : Value) (Q : List Nd) (hq : Q.length ≤ 9000) (h : LI w0 w f v (spL Q)) (cs : Array Value) (hcs : cs = spC (spN x)) :
    Calls Tryd.prog 38 #[.pointer (some ⟨f, 0, none⟩), .agg #[V], .agg cs] w fun e w' => e = .returned (.tuple #[]) ∧ ∃ v', LI w0 w' f v' (spL (kidsF x W0.prog.length 0 Q)) ∧ Kq f v v' w w' := by
  subst hcs
  have G := hx.inv.good
  have okx := msOf_ok G
  have hpl : progL x.W = progL W0 := by rw [progL, progL, hx.prog]
  have po := progL_po G
  rw [hpl] at po
  have hB0 : Below w.heap.size w ((w.alloc (.cells #[V] 60)).alloc (.cells (spC (spN x)) 106)) := (two_new (Below.refl _ _)).2.2.1
  have hb0 : ((w.alloc (.cells #[V] 60)).alloc (.cells (spC (spN x)) 106)).heap[w.heap.size]? = some (.cells #[V] 60) := heap_alloc2_old _ _ _
  have hb1 : ((w.alloc (.cells #[V] 60)).alloc (.cells (spC (spN x)) 106)).heap[w.heap.size + 1]? = some (.cells (spC (spN x)) 106) := heap_alloc2_new _ _ _
  have hs2 : ((w.alloc (.cells #[V] 60)).alloc (.cells (spC (spN x)) 106)).heap.size = w.heap.size + 2 := by simp
  have h1 := h.later hB0
  have htop := h.top
  have hvo : ∀ b, w.heap.size ≤ b → some b ≠ v.ownBlock := fun b hb hh => by
    have := (World.ownsRow.lt h.row b hh.symm).2
    omega
  have HBx : Hid (∀ w' v', Kq f v v' ((w.alloc (.cells #[V] 60)).alloc (.cells (spC (spN x)) 106)) w' → w'.cell? ⟨w.heap.size, 0, none⟩ = some V ∧ (loadS (.pointer (some ⟨w.heap.size + 1, 0, none⟩))).run Tryd.prog w' = .ok (.agg (msOf x.W).cells) w' ∧ w'.cell? ⟨w.heap.size + 1, 22, none⟩ = some (.string (digS x.l))) := fun w' v' k => by
    have e0 := k.blk w.heap.size (by omega) (by omega) (hvo _ (Nat.le_refl _))
    have e1 := k.blk (w.heap.size + 1) (by omega) (by omega) (hvo _ (by omega))
    rw [hb0] at e0
    rw [hb1] at e1
    exact ⟨cellB e0 rfl, loadS_mid okx fun i u hu => box_cells e1 i u (spC_st (x := spN x) hu), by
      have := box_cells e1 22 _ (spC_sc (x := spN x) okx)
      rwa [Nat.zero_add] at this⟩
  generalize hX : (w.alloc (.cells #[V] 60)).alloc (.cells (spC (spN x)) 106) = X at *
  have HX := show Hid _ from hX
  generalize hR : kidsF x W0.prog.length 0 Q = R
  have HR := show Hid _ from hR
  have HPr : Hid (∀ w' v' Q', LI w0 w' f v' Q' → ProgIn w' B V (progL W0)) := fun w' v' Q' hl => hp0.below (by rw [← hf.out]; exact hl.below)
  have hpl2 := progL_len W0
  have HTh : Hid (∀ w', ProgIn w' B V (progL W0) → Calls Tryd.prog 52 #[.agg #[V]] w' fun e w'' => e = .returned (.int .i64 (W0.prog.length : Int)) ∧ Below w'.heap.size w' w'') := fun w' hp' => by
    rw [← hpl2]; exact Threads_any V (progL W0) w' B hp'
  have HMv : Hid (∀ w' (t : Nat), t < W0.prog.length → ProgIn w' B V (progL W0) → Calls Tryd.prog 44 #[.agg #[V], .agg (msOf x.W).cells, .int .i64 (t : Int)] w' fun e w'' => e = .returned (if stateOf x.W t = 1 then moveV (msOf (moveT x.W t)) true else moveV (msOf x.W) false) ∧ Below w'.heap.size w' w'') := fun w' t ht hp' => by
    have hm := Move_any V (progL W0) (msOf x.W) okx w' B hp' po (t : Int)
    rw [← hpl, step_sim hx.inv (by rw [hx.prog]; exact ht)] at hm
    refine hm.mono fun e w'' ⟨he, hb⟩ => ⟨?_, hb⟩
    rw [he]
    split <;> rfl
  generalize hsp : spC (spN x) = xc at *
  clear hX hR hb0 hb1 hp0 po hpl hpl2 hsp
  go_enter Tryd.func38, Tryd.ntmps38
  go_upto_region 1 with fail
  rw [HX.out]
  go_wp2
  go_loopw [6] (fun y wr => ∃ (t : Nat) (v1 : Value) (Q1 : List Nd), t ≤ W0.prog.length ∧ y = .int .i64 (t : Int) ∧ LI w0 wr f v1 (spL Q1) ∧ Kq f v v1 X wr ∧ Hid (kidsF x (W0.prog.length - t) t Q1 = R) ∧ Q1.length ≤ 9000 + t) (fun y _ => W0.prog.length - (intOf y).toNat)
  case atStart => exact ⟨0, v, Q, Nat.zero_le _, rfl, h1, Kq.ofBelow (Below.refl _ _), HR, hq⟩
  case round =>
    obtain ⟨t, v1, Q1, ht, rfl, h2, k2, HS, hq1⟩ := hrel
    obtain ⟨p0, hld, hsc⟩ := HBx.out wr v1 k2
    have hT := HTh.out wr (HPr.out wr v1 _ h2)
    by_cases htl : t < W0.prog.length
    · have tl : (t : Int) < (W0.prog.length : Int) := by omega
      have HS2 : Hid (kidsF x (W0.prog.length - (t + 1)) (t + 1) (kidQ x Q1 t) = R) := by
        rw [Hid, ← HS.out, show W0.prog.length - t = (W0.prog.length - (t + 1)) + 1 by omega, kidsF]
      by_cases hs1 : stateOf x.W t = 1
      · have hkd := hx.kid htl hs1
        have ok2 := msOf_ok hkd.inv.good
        have hkq : kidQ x Q1 t = putQ Q1 ⟨moveT x.W t, x.l ++ [t]⟩ := by rw [kidQ, if_pos hs1]
        rw [hkq] at HS2
        obtain ⟨r, hr1, hr2, _⟩ := putQ_app Q1 ⟨moveT x.W t, x.l ++ [t]⟩
        have hql : (putQ Q1 ⟨moveT x.W t, x.l ++ [t]⟩).length ≤ 9000 + (t + 1) := by rw [hr1, List.length_append]; omega
        have hM := fun w' hp' => HMv.out w' t htl hp'
        simp only [if_pos hs1, moveV] at hM
        have hI := fun w => itoa_any t (by omega) w
        have hPt := fun w' v' (hl : LI w0 w' f v' (spL Q1)) => put_any f w0 w' v' Q1 (by omega) hl ⟨moveT x.W t, x.l ++ [t]⟩ ok2 _ rfl
        have hcat : ¬ 9223372036854775807 < (digS x.l).size + (nameS t).size := by
          have := hx.small
          rw [digS_size, nameS_size]; omega
        have HCs : Hid (spC (spN ⟨moveT x.W t, x.l ++ [t]⟩) = ((msOf (moveT x.W t)).list ++ [Value.string (digS x.l ++ nameS t)]).toArray) := by rw [Hid, digS_snoc]; rfl
        rw [HCs.out] at hPt
        have hsz2 := MS.cells_size ok2
        have hb9 := build23 (msOf (moveT x.W t)) ok2 (digS x.l ++ nameS t)
        rw [hsz2] at hb9
        have hs9 := congrArg Array.size hb9
        rw [Array.size_setIfInBounds, ← HCs.out, spC_size (x := spN ⟨moveT x.W t, x.l ++ [t]⟩) ok2] at hs9
        generalize ((msOf (moveT x.W t)).list ++ [Value.string (digS x.l ++ nameS t)]).toArray = cs9 at *
        generalize msOf (moveT x.W t) = s2 at *
        generalize msOf x.W = s1 at *
        generalize digS x.l = dl at *
        clear hkq hr1 hr2 hkd HMv HTh
        go_upto_region 6 with (first
          | (go_at_call 52; refine hT.mono ?_; rintro e w1 ⟨rfl, hb1⟩; obtain ⟨p1, hld1, hsc1⟩ := HBx.out w1 v1 (k2.trans (Kq.ofBelow hb1)))
          | (go_at_call 44; refine (hM _ (HPr.out w1 v1 _ (h2.later hb1))).mono ?_; rintro e w2 ⟨rfl, hb2⟩; have hst := storeS_run (s := s2) (heap_alloc_new w2 (.cells zeroS 79)) rfl ok2))
        have hb12 := hb1.trans (hb2.mono hb1.size)
        have hbY : Below wr.heap.size wr ((w2.alloc (.cells zeroS 79)).setRow w2.heap.size s2.cells) := Below.setRow (hb12.alloc hb12.size _) hb12.size _
        have hsq : StIn ((w2.alloc (.cells zeroS 79)).setRow w2.heap.size s2.cells) w2.heap.size s2 := StIn.setRow (heap_alloc_new w2 _) ok2
        have kY := k2.trans (Kq.ofBelow (f := f) (v := v1) hbY)
        have hY := h2.later hbY
        obtain ⟨_, _, hscY⟩ := HBx.out _ v1 kY
        clear hst p1 hld1 hsc1 hsc hld p0 hT hM
        generalize (w2.alloc (.cells zeroS 79)).setRow w2.heap.size s2.cells = Y at *
        go_quiet (first | (go_at_call 54; exact Calls.quiet_of_same (hI _)))
        have hldY := (hsq.below (below_drewN Y nq)).loadS
        have hP := hPt _ v1 (hY.later (below_drewN Y nq))
        have kZ := kY.trans (Kq.ofBelow (f := f) (v := v1) (below_drewN Y nq))
        go_wp2_with (first | (go_at_call 35; refine hP.mono ?_; rintro e w9 ⟨rfl, v9, h9, k9⟩))
        go_roundw
        case rel => exact ⟨t + 1, v9, _, by omega, by go_num, h9, kZ.trans k9, HS2, by omega⟩
        case measure => (simp [intOf] <;> omega)
      · have hkq : kidQ x Q1 t = Q1 := by rw [kidQ, if_neg hs1]
        rw [hkq] at HS2
        have hM := fun w' hp' => HMv.out w' t htl hp'
        simp only [if_neg hs1, moveV] at hM
        generalize msOf x.W = s1 at *
        clear hkq HMv HTh
        go_wp2_with (first
          | (go_at_call 52; refine hT.mono ?_; rintro e w1 ⟨rfl, hb1⟩; obtain ⟨p1, hld1, hsc1⟩ := HBx.out w1 v1 (k2.trans (Kq.ofBelow hb1)))
          | (go_at_call 44; refine (hM _ (HPr.out w1 v1 _ (h2.later hb1))).mono ?_; rintro e w2 ⟨rfl, hb2⟩; have hst := storeS_run (s := s1) (heap_alloc_new w2 (.cells zeroS 79)) rfl okx))
        go_roundw
        case rel =>
          have hb12 := hb1.trans (hb2.mono hb1.size)
          have hbA : Below wr.heap.size wr ((w2.alloc (.cells zeroS 79)).setRow w2.heap.size s1.cells) := Below.setRow (hb12.alloc hb12.size _) hb12.size _
          exact ⟨t + 1, v1, Q1, by omega, by go_num, h2.later hbA, k2.trans (Kq.ofBelow hbA), HS2, by omega⟩
        case measure => (simp [intOf] <;> omega)
    · have tl : ¬ (t : Int) < (W0.prog.length : Int) := by omega
      have hre : R = Q1 := by rw [← HS.out, show W0.prog.length - t = 0 by omega]; rfl
      subst hre
      go_wp2_with (first | (go_at_call 52; refine hT.mono ?_; rintro e w1 ⟨rfl, hb1⟩))
      go_end0
      exact ⟨rfl, v1, h2.later hb1, (Kq.ofBelow hB0).trans (k2.trans (Kq.ofBelow hb1))⟩
end Go.Proofs.YtdfndcbakcmgiabDoor
