import Derived.Test.YtfacehklndapgaaE18
namespace Go.Proofs.Ytfacehklndapgaa
open Go.RowKit
attribute [local go_sem ↓] loadS_fold storeS_fold zeroS_fold

abbrev boxes3 (w : World) (V : Value) (s : MS) : World := (boxes w V s).alloc (.cells #[.slice none 0 0, .string ⟨#[]⟩] 32)
set_option maxRecDepth 100000 in
set_option maxHeartbeats 4000000 in
theorem View_any (V : Value) (W : Wd) (G : W.Good) (w : World) (B : Nat) (hp : ProgIn w B V (progL W)) :
    Calls Try.prog 51 #[.agg #[V], .agg (msOf W).cells] w fun e w' => ∃ g cap, e = .returned (.agg #[.slice (some ⟨g, 0, none⟩) W.prog.length cap, .string (flagsLoop W.set 0 ⟨#[]⟩)]) ∧ Below w.heap.size w w' ∧
      w'.ownsRow (w.heap.size + 3) 56 4 (.slice (some ⟨g, 0, none⟩) W.prog.length cap) W.prog.length ((thsOf W W.prog.length).flatMap thCells) := by
  have ok := msOf_ok G
  have HP : Hid (ProgIn (boxes3 w V (msOf W)) B V (progL W)) := (((hp.alloc (.cells #[V] 69)).alloc (.cells (msOf W).cells 92))).alloc _
  have hst0 : StIn (boxes w V (msOf W)) (w.heap.size + 1) (msOf W) := ⟨heap_alloc2_new _ _ _, ok⟩
  have hst : StIn (boxes3 w V (msOf W)) (w.heap.size + 1) (msOf W) := hst0.alloc _
  have hc0 : (boxes w V (msOf W)).cell? ⟨w.heap.size, 0, none⟩ = some V := cellB (heap_alloc2_old _ _ _) rfl
  have hc1 : (boxes3 w V (msOf W)).cell? ⟨w.heap.size, 0, none⟩ = some V := cell_later ((Below.refl _ _).alloc (Nat.le_refl _) _) hc0
  have hb2 : (boxes w V (msOf W)).heap.size = w.heap.size + 2 := by simp
  have hr0 := heap_alloc_new (boxes w V (msOf W)) (.cells #[.slice none 0 0, .string ⟨#[]⟩] 32)
  rw [hb2] at hr0
  have hbs : (boxes3 w V (msOf W)).heap.size = w.heap.size + 3 := by simp
  have hB0 : Below w.heap.size w (boxes3 w V (msOf W)) := (two_new ((Below.refl _ _).alloc (Nat.le_refl _) _)).2.2.1
  have hn5 := G.n5
  have hfl : flagsLoop (msOf W).fl 0 ⟨#[]⟩ = flagsLoop W.set 0 ⟨#[]⟩ := rfl
  have hFl := fun w' => flagsSet_any (msOf W) ok w'
  rw [hfl] at hFl
  generalize flagsLoop W.set 0 ⟨#[]⟩ = fl at *
  clear hp hst0 hc0 hfl
  go_enter Try.func51, Try.ntmps51
  go_wp2
  go_loopw [5, 6] (fun v i wr => ∃ t g cap : Nat, t ≤ W.prog.length ∧ i = .int .i64 t ∧ v = .slice (some ⟨g, 0, none⟩) t cap ∧ wr.ownsRow (w.heap.size + 3) 56 4 (.slice (some ⟨g, 0, none⟩) t cap) t ((thsOf W t).flatMap thCells) ∧ Below (w.heap.size + 3) (boxes3 w V (msOf W)) wr) (fun _ i _ => W.prog.length - (intOf i).toNat)
  case atStart =>
    refine ⟨0, w.heap.size + 3, 0, by omega, rfl, rfl, ?_, ?_⟩
    · have h := World.ownsRow_lit (boxes3 w V (msOf W)) (base := w.heap.size + 3) (e := 56) (size := 4) #[] 0 (by simp) (Nat.zero_le _) rfl
      simpa [thsOf] using h
    · rw [← hbs]; exact (Below.refl _ _).alloc (Nat.le_refl _) _
  case round =>
    obtain ⟨t, g, cap, ht, rfl, rfl, hown, hB⟩ := hrel
    have hB' : Below (boxes3 w V (msOf W)).heap.size (boxes3 w V (msOf W)) wr := by rw [hbs]; exact hB
    have hsz : w.heap.size + 3 ≤ wr.heap.size := by rw [← hbs]; exact hB'.size
    have hsr := hst.below hB'
    have p0 := cell_later hB' hc1
    have hT := Threads_any V (progL W) wr B (HP.out.below hB')
    rw [progL_len] at hT
    have hgl := hown.lt g rfl
    by_cases htn : t < W.prog.length
    · have hV := fun w' hw => viewThread_any V W G w' B ((HP.out.below hB').below (w' := w') hw) t htn _ rfl
      have htl : (t : Int) < (W.prog.length : Int) := by omega
      have HTH : Hid (thsOf W (t + 1) = thsOf W t ++ [thOf W t]) := thsOf_succ W t
      have hvt : thV (thOf W t) = .agg (thCells (thOf W t)).toArray := rfl
      generalize thOf W t = th at *
      obtain ⟨st, pl, hs, wt⟩ := th
      rw [thV] at hV
      clear hvt
      go_wp2_with (first
        | (go_at_call 78; refine hT.mono ?_; rintro e w1 ⟨rfl, hb1⟩; have p1 := cell_later hb1 p0; have hld := (hsr.below hb1).loadS)
        | (go_at_call 79; refine (hV _ hb1).mono ?_; rintro e w2 ⟨rfl, hb2⟩; have hB2 := hb1.trans (hb2.mono hb1.size); have hown2 := hown.kept (grownBy_of_below hB2) (.inr (by simp [Value.ownBlock])))
        | (at_builtin; go_loud (refine wpList_appendLit _ rfl _ _ 30 rfl (w.heap.size + 3) 56 (.agg #[.int .i64 0, .int .i64 0, .string ⟨#[]⟩, .int .i64 0]) 4 40 Try.underlying30 infoThread rfl (by decide) _ _ _ rfl hown2 _ _ rfl rfl rfl ?c2 ?c3 ?c4 ?c5 ?_)))
      case c2 => exact ⟨rfl, rfl, rfl, rfl⟩
      case c3 => omega
      case c4 => omega
      case c5 => have := hB2.size; omega
      intro v' w3 ho3 hg3 hf3 hn3
      have h1 := hB.trans (hB2.mono hsz)
      have hsz2 := hB2.size
      have hB3 : Below (w.heap.size + 3) (boxes3 w V (msOf W)) w3 := below_grown (h1.alloc (by omega) _) (by simp; omega) hg3 (fun k hk => by simp [Value.ownBlock] at hk; omega)
      obtain ⟨g', cap', hv3⟩ := row_form ho3 hn3
      subst hv3
      clear hg3 hf3 hn3 hown hown2
      go_wp2
      go_roundw
      case rel =>
        refine ⟨t + 1, g', cap', by omega, rfl, rfl, ?_, hB3⟩
        rw [HTH.out]
        simpa [thCells] using ho3
      case measure => simp [intOf]; omega
    · have hte : t = W.prog.length := by omega
      have htl : ¬ (t : Int) < (W.prog.length : Int) := by omega
      have r0 := (hB'.block (w.heap.size + 2) (by rw [hbs]; omega)).trans hr0
      go_wp2_with (first
        | (go_at_call 78; refine hT.mono ?_; rintro e w1 ⟨rfl, hb1⟩; have hld := (hsr.below hb1).loadS)
        | (go_at_call 80; refine (hFl _).mono ?_; rintro e w2 ⟨rfl, hb3⟩; have hx := hb1.trans (hb3.mono hb1.size); have r2 := (hx.block (w.heap.size + 2) (by omega)).trans r0; have q0 : w2.cell? ⟨w.heap.size + 2, 0, none⟩ = some (.slice none 0 0) := cellB r2 rfl; have q1 : w2.cell? ⟨w.heap.size + 2, 1, none⟩ = some (.string ⟨#[]⟩) := cellB r2 rfl; have z0 := frozen_of_row _ _ 0 _ _ r2; have z1 := frozen_of_row _ _ 1 _ _ r2))
      subst hte
      have ho2 := hown.kept (grownBy_of_below hx) (.inr (by simp [Value.ownBlock]))
      have hBw : Below w.heap.size w w2 := hB0.trans ((hB'.trans (hx.mono hB'.size)).mono hB0.size)
      refine bodyPost_ret (v := .agg #[.slice (some ⟨g, 0, none⟩) W.prog.length cap, .string fl]) (by simp [results, Try.results51, go_sem, q0, q1]) rfl ⟨g, cap, rfl, ?_, ?_⟩
      · exact (hBw.setCell (p := ⟨w.heap.size + 2, 0, none⟩) (by simp) _).setCell (p := ⟨w.heap.size + 2, 1, none⟩) (by simp) _
      · exact ownsRow_setCell_below (ownsRow_setCell_below ho2 (a := ⟨w.heap.size + 2, 0, none⟩) (by simp) _) (a := ⟨w.heap.size + 2, 1, none⟩) (by simp) _
end Go.Proofs.Ytfacehklndapgaa
