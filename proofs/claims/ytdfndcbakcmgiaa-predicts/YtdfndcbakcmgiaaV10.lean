import Derived.Test.YtdfndcbakcmgiaaV8
import Derived.Test.YtdfndcbakcmgiaaV5
import Derived.Test.YtdfndcbakcmgiaaU18
namespace Go.Proofs.Ytdfndcbakcmgiaa
open Go.RowKit

theorem report_any (pw : Nat) (W : Wd) (w : World) {gP cP gB cB gL cL gH cH gS cS : Nat} {aG : Option Addr} {cG : Nat} (h : WIn w pw W gP cP gB cB gL cL gH cH gS cS aG cG) (hn5 : W.prog.length ≤ 5) (hL : LogOk W) (hl : W.log.length ≤ 60)
    (a b : Option Addr) (ca cb : Nat) (la : List Aq) (hok : ∀ x ∈ la, x.Ok) (hev : ∀ x ∈ la, ∀ m, x.ev = some m → m < W.log.length) (p : List Nat) (hp : p.length ≤ 5) (hin : ∀ i ∈ p, i < la.length) (ha : AqsAt w a la) (hb : IntsAt w b (intN p)) :
    Calls Try.prog 68 #[.pointer (some ⟨pw, 0, none⟩), .slice a la.length ca, .slice b p.length cb] w fun e w' => e = .returned (.agg #[.slice b p.length cb, .int .i64 (rpOf W.log la p).vd, .string (digS (rpOf W.log la p).sc)]) ∧ Below w.heap.size w w' := by
  have hrin : ∀ x ∈ ringOf la p, x ∈ la := fun x hx => by
    obtain ⟨i, hi, rfl⟩ := List.mem_map.1 hx
    exact aqOf_mem (hin i hi)
  have hge := gate_eq (ringOf la p) (fun x hx k hk => (hok x (hrin x hx)).hl k hk)
  have hor := ordR_iff W.log hl (ringOf la p) (fun x hx => hev x (hrin x hx))
  simp only [rpOf]
  cases hg : gateB (ringOf la p) with
  | true =>
    have hj : judgeV W.log (ringOf la p) = (1, []) := by rw [judgeV, ← hge, hg, if_pos rfl]
    rw [hj]
    exact report_gated pw w a b ca cb la hok p hp hin ha hb hg
  | false =>
    by_cases ho : ordR W.log (ringOf la p)
    · have hj : judgeV W.log (ringOf la p) = (2, []) := by rw [judgeV, ← hge, hg, if_neg (by decide), if_pos (hor.1 ho)]
      rw [hj]
      exact report_ordered pw W w h hn5 hL hl a b ca cb la hok hev p hp hin ha hb hg ho
    · refine report_rest pw W w h hn5 hL hl a b ca cb la hok hev p hp hin ha hb hg ho _ ?_
      rw [judgeV, ← hge, hg, if_neg (by decide), if_neg (fun hh => ho (hor.2 hh))]

/-! Reports, as the reference lays them: their numbers lie in the chains. -/
structure RIn (w : World) (B : Nat) (v : Value) (L : List Rp) (us : List Value) : Prop where
  len : us.length = L.length
  row : w.ownsRow B 58 3 v L.length (rpsXs us L)
  el : ∀ (k : Nat) (x : Rp) (u : Value), L[k]? = some x → us[k]? = some u → ∃ g o c, u = .slice (some ⟨g, o, none⟩) x.asks.length c ∧ IntsAt w (some ⟨g, o, none⟩) (intN x.asks) ∧ (B ≤ g ∧ g < w.heap.size) ∧ some g ≠ v.ownBlock
theorem RIn.nil (w : World) (B : Nat) : RIn w B (.slice none 0 0) [] [] := ⟨rfl, World.ownsRow_nil _ _ _ _, fun k x u h => by simp at h⟩
theorem RIn.below {w w' : World} {B : Nat} {v : Value} {L : List Rp} {us : List Value} (h : RIn w B v L us) (hb : Below w.heap.size w w') : RIn w' B v L us :=
  ⟨h.len, ownsRow_below h.row hb, fun k x u hx hu => by
    obtain ⟨g, o, c, h1, h2, h3, h4⟩ := h.el k x u hx hu
    exact ⟨g, o, c, h1, h2.below hb, ⟨h3.1, Nat.lt_of_lt_of_le h3.2 hb.size⟩, h4⟩⟩
theorem RIn.push {w w5 : World} {B : Nat} {v v' u : Value} {L : List Rp} {us : List Value} (h : RIn w B v L us) {g o c : Nat} {x : Rp} (hu : u = .slice (some ⟨g, o, none⟩) x.asks.length c) (hq : IntsAt w (some ⟨g, o, none⟩) (intN x.asks)) (hg : B ≤ g ∧ g < w.heap.size) (hgv : some g ≠ v.ownBlock)
    {ob : Obj} (ho5 : w5.ownsRow B 58 3 v' (L.length + 1) (rpsXs us L ++ rpCells u x)) (hg5 : (w.alloc ob).grownBy w5 v.ownBlock) (hf5 : Fresh (w.alloc ob) v v') : RIn w5 B v' (L ++ [x]) (us ++ [u]) := by
  have hs : (w.alloc ob).heap.size = w.heap.size + 1 := by simp
  have hs5 := hg5.size
  have hba : Below w.heap.size w (w.alloc ob) := (Below.refl _ _).alloc (Nat.le_refl _) _
  have keep : ∀ (g o : Nat) (q : List Nat), B ≤ g ∧ g < w.heap.size → some g ≠ v.ownBlock → IntsAt w (some ⟨g, o, none⟩) (intN q) → IntsAt w5 (some ⟨g, o, none⟩) (intN q) ∧ (B ≤ g ∧ g < w5.heap.size) ∧ some g ≠ v'.ownBlock := fun g o q h1 h2 h3 => by
    refine ⟨(h3.below hba).grown hg5 (fun p hp => by cases hp; exact h2), ⟨h1.1, by omega⟩, ?_⟩
    rcases hf5 with e | ⟨g', e, hg'⟩
    · rw [e]; exact h2
    · rw [e]; intro hh; cases hh; omega
  refine ⟨by simp [h.len], by rw [List.length_append, rpsXs_snoc us L u x h.len]; exact ho5, fun k x' u' hk hk' => ?_⟩
  have hlen := h.len
  by_cases hkl : k < L.length
  · rw [List.getElem?_append_left hkl] at hk
    rw [List.getElem?_append_left (by omega)] at hk'
    obtain ⟨g1, o1, c1, h1, h2, h3, h4⟩ := h.el k x' u' hk hk'
    exact ⟨g1, o1, c1, h1, keep g1 o1 x'.asks h3 h4 h2⟩
  · have hke : k = L.length := by
      have := (List.getElem?_eq_some_iff.1 hk).1
      simp at this; omega
    subst hke
    rw [List.getElem?_append_right (Nat.le_refl _)] at hk
    rw [List.getElem?_append_right (by omega), hlen] at hk'
    simp at hk hk'
    subst hk hk'
    exact ⟨g, o, c, hu, keep g o x.asks hg hgv hq⟩
theorem RIn.at {w : World} {B : Nat} {v : Value} {L : List Rp} {us : List Value} (h : RIn w B v L us) : ∃ a c, v = .slice a L.length c ∧ RpsAt w a L B := by
  have hf : ∃ a c, v = .slice a L.length c := by
    rcases h.row.2 with ⟨h1, h2⟩ | ⟨g, cap, _, h1, _⟩
    · exact ⟨none, 0, by rw [h1, h2]⟩
    · exact ⟨_, cap, h1⟩
  obtain ⟨a, c, rfl⟩ := hf
  refine ⟨a, c, rfl, rps_row rfl h.len h.row fun k x u hx hu => ?_⟩
  obtain ⟨g, o, c, h1, h2, h3, _⟩ := h.el k x u hx hu
  exact ⟨_, c, h1, h2, fun p hp => by cases hp; exact h3.1⟩

/-! Blocks of a stretch are as they were. -/
structure SameB (lo : Nat) (Y w : World) : Prop where
  size : Y.heap.size ≤ w.heap.size
  blk : ∀ b, lo ≤ b → b < Y.heap.size → w.heap[b]? = Y.heap[b]?
theorem SameB.refl (lo : Nat) (Y : World) : SameB lo Y Y := ⟨Nat.le_refl _, fun _ _ _ => rfl⟩
theorem SameB.below {lo : Nat} {Y w w' : World} (h : SameB lo Y w) (hb : Below w.heap.size w w') : SameB lo Y w' :=
  ⟨Nat.le_trans h.size hb.size, fun b h1 h2 => by rw [hb.block b (Nat.lt_of_lt_of_le h2 h.size)]; exact h.blk b h1 h2⟩
def OutOk (lo : Nat) (Y : World) (v : Value) : Prop := ∀ p, v.ownBlock = some p → p < lo ∨ Y.heap.size ≤ p
theorem SameB.grown {lo : Nat} {Y w w' : World} {v v' : Value} (h : SameB lo Y w) (hg : w.grownBy w' v.ownBlock) (ho : OutOk lo Y v) (hf : Fresh w v v') : SameB lo Y w' ∧ OutOk lo Y v' := by
  refine ⟨⟨Nat.le_trans h.size hg.size, fun b h1 h2 => ?_⟩, fun p hp => ?_⟩
  · rw [hg.block b (Nat.lt_of_lt_of_le h2 h.size) (fun e => by have := ho b e.symm; omega)]; exact h.blk b h1 h2
  · rcases hf with e | ⟨g, e, hge⟩
    · exact ho p (by rw [← e]; exact hp)
    · rw [e] at hp; cases hp; exact .inr (Nat.le_trans h.size hge)
theorem SameB.cell {lo : Nat} {Y w : World} (h : SameB lo Y w) {g o : Nat} {x : Value} (hg : lo ≤ g) (hc : Y.cell? ⟨g, o, none⟩ = some x) : w.cell? ⟨g, o, none⟩ = some x := by
  have hb := h.blk g hg (World.block_lt_of_cell? Y _ hc)
  rw [World.cell?_of_block (w := Y) (a := ⟨g, o, none⟩) hb]; exact hc
theorem ChAt.same {lo : Nat} {Y w : World} {a : Option Addr} {C : List (List Nat)} (h : ChAt Y a C lo) (hs : SameB lo Y w) {k : Nat} {q : List Nat} (hk : C[k]? = some q) (hq : q ≠ []) :
    ∃ g gb ob cb, a = some ⟨g, 0, none⟩ ∧ w.cell? ⟨g, k, none⟩ = some (.slice (some ⟨gb, ob, none⟩) q.length cb) ∧ IntsAt w (some ⟨gb, ob, none⟩) (intN q) ∧ lo ≤ gb ∧ gb < Y.heap.size := by
  obtain ⟨g, b, cb, h1, h0, h2, h3, h4⟩ := h k q hk
  obtain ⟨z, hz⟩ := get_some q 0 (List.length_pos_iff.2 hq)
  obtain ⟨gb, ob, e, c⟩ := h3 0 (z : Int) (by simp [intN, hz])
  subst e
  have hlo := h4 _ rfl
  refine ⟨g, gb, ob, cb, h1, hs.cell h0 h2, fun j y hy => ?_, hlo, World.block_lt_of_cell? Y _ c⟩
  obtain ⟨g2, o2, e2, c2⟩ := h3 j y hy
  cases e2
  exact ⟨gb, ob, rfl, hs.cell hlo c2⟩

/-! How far the reference has come. -/
noncomputable def filC (la : List Aq) (n : Nat) : List (List Nat) := (chn la n).filter (circB la)
noncomputable def preC (la : List Aq) (size : Nat) : List (List Nat) := (List.range' 2 (size - 2)).flatMap (filC la)
noncomputable def doneC (la : List Aq) (size k : Nat) : List (List Nat) := preC la size ++ ((chn la size).take k).filter (circB la)
theorem preC_succ (la : List Aq) {size : Nat} (h : 2 ≤ size) : preC la (size + 1) = preC la size ++ filC la size := by
  rw [preC, preC, show size + 1 - 2 = (size - 2) + 1 by omega, List.range'_concat, List.flatMap_append]
  simp [show 2 + (size - 2) = size by omega]
theorem doneC_zero (la : List Aq) (size : Nat) : doneC la size 0 = preC la size := by simp [doneC]
theorem doneC_all (la : List Aq) {size k : Nat} (h : 2 ≤ size) (hk : k = (chn la size).length) : doneC la size k = preC la (size + 1) := by
  rw [doneC, preC_succ la h, hk, List.take_length, filC]
theorem doneC_yes {la : List Aq} {size k : Nat} {q : List Nat} (hq : (chn la size)[k]? = some q) (hc : circB la q = true) : doneC la size (k + 1) = doneC la size k ++ [q] := by
  rw [doneC, doneC, List.take_add_one, hq, List.filter_append, List.append_assoc]; simp [hc]
theorem doneC_no {la : List Aq} {size k : Nat} {q : List Nat} (hq : (chn la size)[k]? = some q) (hc : circB la q = false) : doneC la size (k + 1) = doneC la size k := by
  rw [doneC, doneC, List.take_add_one, hq, List.filter_append]; simp [hc]
theorem preC_pre (la : List Aq) : ∀ (d size : Nat), 2 ≤ size → ∃ r, preC la (size + d) = preC la size ++ r
  | 0, size, _ => ⟨[], by simp⟩
  | d + 1, size, h => by
    obtain ⟨r, hr⟩ := preC_pre la d size h
    exact ⟨r ++ filC la (size + d), by rw [← Nat.add_assoc, preC_succ la (by omega), hr, List.append_assoc]⟩
theorem allC_pre (la : List Aq) (N : Nat) : allC la N = preC la (N + 1) := by
  rw [allC, preC, show N + 1 - 2 = N - 1 by omega]; rfl
theorem doneC_pre {la : List Aq} {N size k : Nat} {q : List Nat} (h2 : 2 ≤ size) (hN : size ≤ N) (hq : (chn la size)[k]? = some q) (hc : circB la q = true) : ∃ r, allC la N = doneC la size k ++ q :: r := by
  obtain ⟨r, hr⟩ := preC_pre la (N - size) (size + 1) (by omega)
  rw [show size + 1 + (N - size) = N + 1 by omega, ← allC_pre] at hr
  rw [hr, preC_succ la h2, filC]
  have hl : chn la size = (chn la size).take k ++ q :: (chn la size).drop (k + 1) := by
    obtain ⟨hk, e⟩ := List.getElem?_eq_some_iff.1 hq
    rw [← e, List.getElem_cons_drop, List.take_append_drop]
  refine ⟨((chn la size).drop (k + 1)).filter (circB la) ++ r, ?_⟩
  have he : (chn la size).filter (circB la) = ((chn la size).take k).filter (circB la) ++ q :: ((chn la size).drop (k + 1)).filter (circB la) := by
    conv => lhs; rw [hl]
    rw [List.filter_append, List.filter_cons, if_pos hc]
  rw [he, doneC]
  simp
theorem findS_all {la : List Aq} {N : Nat} (hN : N ≤ 5) (hth : ∀ x ∈ la, x.th < N) (most : Nat) : findS la most = ((allC la N).take most, decide (most < (allC la N).length)) := by
  rw [findS_add, dfs_all hN hth]; rfl
end Go.Proofs.Ytdfndcbakcmgiaa
namespace Go.Proofs.Ytdfndcbakcmgiaa
open Go.RowKit

set_option maxRecDepth 100000 in
set_option maxHeartbeats 2000000 in
theorem refPredict_bad (s sch : ByteArray) (k : Int) (x : Int) (hx : x ≠ 0) (w : World) (hwd : ∀ w, Calls Try.prog 49 #[.string s, .string sch] w fun e w' => e = .returned (.tuple #[.pointer none, .int .i64 x]) ∧ Below w.heap.size w w') :
    Calls Try.prog 32 #[.string s, .string sch, .int .i64 k] w fun e w' => e = .returned (.tuple #[.slice none 0 0, .bool false, .int .i64 x]) ∧ Below w.heap.size w w' := by
  have hb : (x != 0) = true := by simpa using hx
  go_enter Try.func32, Try.ntmps32
  go_wp2_with (first | (go_at_call 49; refine (hwd _).mono ?_; rintro e w1 ⟨rfl, hB1⟩))
  go_ret3
  exact ⟨rfl, hB1⟩

set_option maxRecDepth 100000 in
set_option maxHeartbeats 2000000 in
theorem refPredict_arg (s sch : ByteArray) (hsch : sch.size ≤ maxLen) (k : Int) (hk : k < 0 ∨ 100 < k) (w : World) (h0 : (ckP s).1 = 0) (W : Wd) (hW : toLoop sch (beginW (thLoop s 0 0 [])) 0 = some W) :
    Calls Try.prog 32 #[.string s, .string sch, .int .i64 k] w fun e w' => e = .returned (.tuple #[.slice none 0 0, .bool false, .int .i64 6]) ∧ Below w.heap.size w w' := by
  have I0 := begin_inv s h0
  have hwd := fun w => world_ok s sch w h0 (ckP_zero s h0).1 hsch I0 W hW
  clear hW h0 I0
  rcases hk with hk | hk
  · have hk0 : decide (k < 0) = true := decide_eq_true hk
    go_enter Try.func32, Try.ntmps32
    go_wp2_with (first | (go_at_call 49; refine (hwd _).mono ?_; rintro e w1 ⟨p, rfl, hB1, hR1, I1⟩; clear hwd))
    go_ret3
    exact ⟨rfl, hB1⟩
  · have hk0 : ¬ k < 0 := by omega
    have hk1 : decide (k < 0) = false := decide_eq_false hk0
    go_enter Try.func32, Try.ntmps32
    go_wp2_with (first | (go_at_call 49; refine (hwd _).mono ?_; rintro e w1 ⟨p, rfl, hB1, hR1, I1⟩; clear hwd))
    go_ret3
    exact ⟨rfl, hB1⟩

set_option maxRecDepth 100000 in
set_option maxHeartbeats 600000 in
theorem refPredict_ok (s sch : ByteArray) (hsch : sch.size ≤ maxLen) (most : Nat) (hm : most ≤ 100) (w : World) (h0 : (ckP s).1 = 0) (W : Wd) (hW : toLoop sch (beginW (thLoop s 0 0 [])) 0 = some W) :
    Calls Try.prog 32 #[.string s, .string sch, .int .i64 (most : Int)] w fun e w' => ∃ a c, e = .returned (.tuple #[.slice a ((findS (aqsW W) most).1.map (rpOf W.log (aqsW W))).length c, .bool (findS (aqsW W) most).2, .int .i64 0]) ∧ Below w.heap.size w w' ∧ RpsAt w' a ((findS (aqsW W) most).1.map (rpOf W.log (aqsW W))) w.heap.size := by
  have I0 := begin_inv s h0
  have hwd := fun w => world_ok s sch w h0 (ckP_zero s h0).1 hsch I0 W hW
  have hLO := toLoop_logOk sch _ 0 _ W rfl I0 (begin_logOk _) hW
  have A := askW_to h0 hW
  have hak := aqsW_ak A
  have hn5 := (toLoop_inv sch _ 0 _ W rfl I0 hW).1.good.n5
  have hl60 := (toLoop_inv sch _ 0 _ W rfl I0 hW).1.small
  have hok0 := aqsW_ok A hn5 hl60
  have hok : ∀ x ∈ aqsW W, x.Ok := fun x hx => (hok0 x hx).1
  have hev := aqsW_ev (W := W)
  have hfs := findS_all hn5 (fun x hx => (hok0 x hx).2) most
  have hla : (aqsW W).length ≤ 100 := by
    have h1 := asks1_len W.log W.log.length
    have h2 := asks2_len (wantsE W W.prog.length) (wantsE W W.prog.length).length
    have h3 := wantsE_len W W.prog.length
    have : (aqsW W).length = (asksW W).length := by rw [← hak, List.length_map]
    rw [this, asksW, List.length_append]; omega
  have k0 : ¬ (most : Int) < 0 := by omega
  have k1 : ¬ (100 : Int) < (most : Int) := by omega
  have k0' : decide ((most : Int) < 0) = false := decide_eq_false k0
  have k1' : decide ((100 : Int) < (most : Int)) = false := decide_eq_false k1
  have k2' : decide (100 < most) = false := decide_eq_false (by omega)
  rw [hfs]
  have HEq := show Hid _ from hak
  generalize aqsW W = la at *
  simp only
  generalize hRL : ((allC la W.prog.length).take most).map (rpOf W.log la) = RL
  generalize hMO : decide (most < (allC la W.prog.length).length) = mo
  have HRL := show Hid _ from hRL
  have HMO := show Hid _ from hMO
  clear hRL hMO
  clear hfs hok0 A I0 h0 hW hak
  go_enter Try.func32, Try.ntmps32
  go_upto_region 6 with (first | (go_at_call 49; refine (hwd _).mono ?_; rintro e w1 ⟨p, rfl, hB1, hR1, I1⟩; clear hwd))
  obtain ⟨gP, cP, gB, cB, gL, cL, gH, cH, gS, cS, aG, cG, hWi⟩ := hR1.wIn I1.good.ok
  have hA := refasks_any p W w1 hWi I1 hLO
  clear hR1 I1
  go_upto_region 7 with (first | (go_at_call 59; refine hA.mono ?_; rintro e w2 ⟨va, rfl, hb2, ho2⟩))
  have hf : ∃ a c, va = .slice a la.length c := by
    have hl2 : (asksW W).length = la.length := by rw [← HEq.out, List.length_map]
    rcases ho2.2 with ⟨h1, h2⟩ | ⟨g, cap, _, h1, _⟩
    · exact ⟨none, 0, by rw [h1, ← hl2, h2]⟩
    · exact ⟨_, cap, by rw [h1, ← hl2]⟩
  obtain ⟨a, ca, rfl⟩ := hf
  have ha2 : AqsAt w2 a la := by
    rw [← HEq.out] at ho2
    exact aqsAt_of (aksAt_row (B := w1.heap.size) (n := la.length) (c := ca) (l := la.map Aq.ak) (by simp) (by simpa [rowAv] using ho2))
  have hW2 := hWi.below hb2
  have hB2 := hB1.trans (hb2.mono hB1.size)
  clear hA ho2 hWi hb2 hB1
  go_wp2
  go_loopw [12, 13] (fun v y wr => ∃ (size : Nat) (us : List Value) (v0 : Value), v0 = v ∧ 2 ≤ size ∧ (size ≤ W.prog.length + 1 ∨ size = 2) ∧ y = .int .i64 (size : Int) ∧ RIn wr w2.heap.size v ((preC la size).map (rpOf W.log la)) us ∧ (preC la size).length ≤ most ∧ Below w2.heap.size w2 wr) (fun _ y _ => W.prog.length + 2 - (intOf y).toNat)
  case atStart => exact ⟨2, [], _, rfl, by omega, .inr rfl, rfl, RIn.nil _ _, Nat.zero_le _, Below.refl _ _⟩
  case round =>
    obtain ⟨size, us, v, rfl, hs2, hsN, rfl, hR, hle, hB⟩ := hrel
    have fP := (hW2.below hB).fP
    have s0 : (0 : Int) ≤ (size : Int) := by omega
    by_cases hsz : size ≤ W.prog.length
    · have sI : (size : Int) ≤ (W.prog.length : Int) := by omega
      have hCh := chains_any a ca la hok hla size (by omega) wr (ha2.below hB)
      have hcl := Nat.le_trans (chn_len la hla size) (Nat.pow_le_pow_right (by omega) (show size ≤ 5 by omega))
      go_upto_region 12 with (first | (go_at_call 66; refine hCh.mono ?_; rintro e Y ⟨bC, cC, rfl, hbY, hC⟩))
      have hRY := hR.below hbY
      have hBY := hB.trans (hbY.mono hB.size)
      have hOut : OutOk wr.heap.size Y v := fun p hp => .inl (World.ownsRow.lt hR.row p hp).2
      have hin : ∀ q ∈ chn la size, q.length = size ∧ ∀ i ∈ q, i < la.length := fun q hq => chn_mem hq
      have hSY : SameB wr.heap.size Y Y := SameB.refl _ _
      clear hCh hR
      go_wp2
      go_loopw [12, 15] (fun v y wq => ∃ (k : Nat) (us : List Value) (v0 : Value), v0 = v ∧ k ≤ (chn la size).length ∧ y = .int .i64 (k : Int) ∧ RIn wq w2.heap.size v0 ((doneC la size k).map (rpOf W.log la)) us ∧ (doneC la size k).length ≤ most ∧ Below w2.heap.size w2 wq ∧ SameB wr.heap.size Y wq ∧ OutOk wr.heap.size Y v0) (fun _ y _ => (chn la size).length - (intOf y).toNat)
      case atStart => exact ⟨0, us, _, rfl, Nat.zero_le _, rfl, by rw [doneC_zero]; exact hRY, by rw [doneC_zero]; exact hle, hBY, hSY, hOut⟩
      case round =>
        clear hRY hBY hSY hOut hle
        obtain ⟨k, us, v, rfl, hk, rfl, hR, hle, hBq, hS, hO⟩ := hrel
        by_cases hkl : k < (chn la size).length
        · obtain ⟨q, hq⟩ := get_some (chn la size) k hkl
          obtain ⟨hql, hqi⟩ := hin q (List.mem_of_getElem? hq)
          have hq0 : q ≠ [] := by intro e; rw [e] at hql; simp at hql; omega
          have hq5 : q.length ≤ 5 := by omega
          have HQL := show Hid _ from hql
          clear hql
          obtain ⟨g, gb, ob, cb, e1, s1, s2, hlo, hhi⟩ := hC.same hS hq hq0
          subst e1
          have k00 : (0 : Int) ≤ (k : Int) := by omega
          have kl : (k : Int) < ((chn la size).length : Int) := by omega
          have haq := ha2.below hBq
          have hCi := circle_any a (some ⟨gb, ob, none⟩) ca cb la hok q (by omega) hqi _ haq s2 _ rfl
          have hvs : ∃ av cv, v = .slice av (doneC la size k).length cv := by
            rcases hR.row.2 with ⟨h1, h2⟩ | ⟨gv, cap, _, h1, _⟩
            · exact ⟨none, 0, by rw [h1]; rw [List.length_map] at h2; rw [h2]⟩
            · exact ⟨_, cap, by rw [h1, List.length_map]⟩
          obtain ⟨av, cv, rfl⟩ := hvs
          cases hc : circB la q with
          | false =>
            rw [hc] at hCi
            have hd := doneC_no hq hc
            have HD := show Hid _ from hd
            clear hd hq hc
            go_wp2_with (first | (go_at_call 67; refine hCi.mono ?_; rintro e w4 ⟨rfl, hb4⟩))
            go_roundw
            case rel => exact ⟨k + 1, us, _, rfl, by omega, by go_num, by rw [HD.out]; exact hR.below hb4, by rw [HD.out]; exact hle, hBq.trans (hb4.mono hBq.size), hS.below hb4, hO⟩
            case measure => (simp [intOf] <;> omega)
          | true =>
            rw [hc] at hCi
            have hd := doneC_yes hq hc
            obtain ⟨r, hr⟩ := doneC_pre hs2 hsz hq hc
            by_cases hfull : (doneC la size k).length = most
            · subst hfull
              obtain ⟨a9, c9, hv9, hAt⟩ := hR.at
              simp only [Value.slice.injEq, List.length_map, true_and] at hv9
              obtain ⟨rfl, rfl⟩ := hv9
              have e1 : RL = (doneC la size k).map (rpOf W.log la) := by rw [← HRL.out, hr]; simp
              have e2 : mo = true := by rw [← HMO.out, hr]; simp
              subst e1 e2
              clear hd hr hq hc HRL HMO
              go_wp2_with (first | (go_at_call 67; refine hCi.mono ?_; rintro e w4 ⟨rfl, hb4⟩))
              go_ret3
              have hBw := hB2.trans ((hBq.trans (hb4.mono hBq.size)).mono hB2.size)
              first
                | exact ⟨av, cv, by simp, hBw, (hAt.mono hB2.size).below hb4⟩
                | exact ⟨av, ⟨cv, by simp⟩, hBw, (hAt.mono hB2.size).below hb4⟩
            · have hne : (((doneC la size k).length : Int) == (most : Int)) = false := beq_false_of_ne (by omega)
              have HRp := fun w' (hw : Below w2.heap.size w2 w') (hi : IntsAt w' (some ⟨gb, ob, none⟩) (intN q)) => report_any p W w' (hW2.below hw) hn5 hLO hl60 a (some ⟨gb, ob, none⟩) ca cb la hok hev q hq5 hqi (ha2.below hw) hi
              have HD : Hid ((doneC la size (k + 1)).map (rpOf W.log la) = (doneC la size k).map (rpOf W.log la) ++ [rpOf W.log la q] ∧ (doneC la size (k + 1)).length = (doneC la size k).length + 1) := by rw [Hid, hd]; simp
              have hra : (rpOf W.log la q).asks = q := rfl
              have hvl := World.ownsRow.lt hR.row
              generalize rpOf W.log la q = rq at *
              obtain ⟨ra, rv, rs⟩ := rq
              simp only at hra HRp
              subst hra
              have hll : ((doneC la size k).map (rpOf W.log la)).length = (doneC la size k).length := List.length_map ..
              clear hd hr hq hc
              go_upto_region 20 with (first
                | (go_at_call 67; refine hCi.mono ?_; rintro e w4 ⟨rfl, hb4⟩; have hB4 := hBq.trans (hb4.mono hBq.size); have t1 := cell_later hb4 s1; have t2 := s2.below hb4)
                | (go_at_call 68; refine (HRp _ hB4 t2).mono ?_; rintro e w5 ⟨rfl, hb5⟩))
              have hB5 := hB4.trans (hb5.mono hB4.size)
              have hb45 := hb4.trans (hb5.mono hb4.size)
              have hZb : Below w5.heap.size w5 (w5.alloc (.cells #[.slice (some ⟨gb, ob, none⟩) ra.length cb, .int .i64 rv, .string (digS rs)] 58)) := (Below.refl _ _).alloc (Nat.le_refl _) _
              have hZ := hb45.trans (hZb.mono hb45.size)
              have hR6 := hR.below hZ
              have hS6 := hS.below hZ
              have hB6 := hB5.trans (hZb.mono hB5.size)
              have s6 := s2.below hZ
              have own6 := hR6.row
              have hs6 := hB6.size
              have b0 : (w5.alloc (.cells #[.slice (some ⟨gb, ob, none⟩) ra.length cb, .int .i64 rv, .string (digS rs)] 58)).cell? ⟨w5.heap.size, 0, none⟩ = some (.slice (some ⟨gb, ob, none⟩) ra.length cb) := cellB (heap_alloc_new _ _) rfl
              have b1 : (w5.alloc (.cells #[.slice (some ⟨gb, ob, none⟩) ra.length cb, .int .i64 rv, .string (digS rs)] 58)).cell? ⟨w5.heap.size, 1, none⟩ = some (.int .i64 rv) := cellB (heap_alloc_new _ _) rfl
              have b2 : (w5.alloc (.cells #[.slice (some ⟨gb, ob, none⟩) ra.length cb, .int .i64 rv, .string (digS rs)] 58)).cell? ⟨w5.heap.size, 2, none⟩ = some (.string (digS rs)) := cellB (heap_alloc_new _ _) rfl
              generalize w5.alloc (.cells #[.slice (some ⟨gb, ob, none⟩) ra.length cb, .int .i64 rv, .string (digS rs)] 58) = Z at *
              clear hZb hZ hb45 hB5 hb5 hB4 hb4 t1 t2 s1 s2 hR hS hCi HRp
              go_wp2_with (at_builtin; go_loud (refine wpList_appendLit _ rfl _ _ 52 rfl w2.heap.size 58 (.agg #[.slice none 0 0, .int .i64 0, .string ⟨#[]⟩]) 3 48 Try.underlying52 infoRp rfl (by decide) _ _ _ rfl own6 _ _ rfl rfl rfl ?c2 ?c3 ?c4 ?c5 ?_))
              case c2 => simp [Value.oneCell']
              case c3 => omega
              case c4 => omega
              case c5 => exact hs6
              intro v7 w7 ho7 hg7 hf7 hn7
              have hR7 := hR6.push (x := ⟨ra, rv, rs⟩) rfl s6 ⟨Nat.le_trans hB.size hlo, Nat.lt_of_lt_of_le hhi hS6.size⟩ (fun e => by have := hO gb e.symm; omega) (by simpa [rpCells] using ho7) hg7 hf7
              have hB7 : Below w2.heap.size w2 w7 := below_grown (hB6.alloc hs6 _) (by simp; omega) hg7 (fun k hk => (World.ownsRow.lt own6 k hk).1)
              obtain ⟨hS7, hO7⟩ := (hS6.below ((Below.refl _ _).alloc (Nat.le_refl _) _)).grown hg7 hO hf7
              clear hg7 hf7 hn7 ho7 hR6 hS6 own6 b0 b1 b2
              go_wp2
              go_roundw
              case rel => exact ⟨k + 1, _, _, rfl, by omega, by go_num, by rw [HD.out.1]; exact hR7, by rw [HD.out.2]; omega, hB7, hS7, hO7⟩
              case measure => (simp [intOf] <;> omega)
        · have kl : ¬ (k : Int) < ((chn la size).length : Int) := by omega
          have hd := doneC_all la hs2 (show k = (chn la size).length by omega)
          rw [hd] at hR hle
          clear hd
          go_wp2
          go_roundw
          case rel => exact ⟨size + 1, us, _, rfl, by omega, .inl (by omega), by go_num, hR, hle, hBq⟩
          case measure => (simp [intOf] <;> omega)
    · have sI : ¬ (size : Int) ≤ (W.prog.length : Int) := by omega
      have hpre : preC la size = allC la W.prog.length := by
        rw [allC_pre]
        rcases hsN with h | h
        · rw [show size = W.prog.length + 1 by omega]
        · subst h
          rw [preC, preC, show W.prog.length + 1 - 2 = 0 by omega]
      rw [hpre] at hR hle
      clear hpre
      obtain ⟨av, cv, hv, hAt⟩ := hR.at
      subst hv
      have e1 : RL = (allC la W.prog.length).map (rpOf W.log la) := by rw [← HRL.out, List.take_of_length_le hle]
      have e2 : mo = false := by rw [← HMO.out]; exact decide_eq_false (by omega)
      subst e1 e2
      clear HRL HMO
      go_wp2
      go_ret3
      first
        | exact ⟨av, cv, by simp, hB2.trans (hB.mono hB2.size), hAt.mono hB2.size⟩
        | exact ⟨av, ⟨cv, by simp⟩, hB2.trans (hB.mono hB2.size), hAt.mono hB2.size⟩
end Go.Proofs.Ytdfndcbakcmgiaa
namespace Go.Proofs.Ytdfndcbakcmgiaa
open Go.RowKit

theorem sameI (a b : Option Addr) (ca cb : Nat) (q : List Nat) (hq : q.length ≤ 1000) (w : World) (ha : IntsAt w a (intN q)) (hb : IntsAt w b (intN q)) :
    Calls Try.prog 30 #[.slice a q.length ca, .slice b q.length cb] w fun e w' => e = .returned (.bool true) ∧ Below w.heap.size w w' := by
  have h := sameInts_true a b ca cb (intN q) (by unfold maxLen; simp [intN]; omega) w ha hb
  rw [show (intN q).length = q.length by simp [intN]] at h
  exact h

set_option maxRecDepth 100000 in
set_option maxHeartbeats 2000000 in
theorem sameReports_true (a b : Option Addr) (ca cb : Nat) (L : List Rp) (hl : L.length ≤ 1000) (hq : ∀ x ∈ L, x.asks.length ≤ 1000) (w : World) {A B : Nat} (ha : RpsAt w a L A) (hb : RpsAt w b L B) :
    Calls Try.prog 33 #[.slice a L.length ca, .slice b L.length cb] w fun e w' => e = .returned (.bool true) ∧ Below w.heap.size w w' := by
  go_enter Try.func33, Try.ntmps33
  go_wp2
  go_loopw [5] (fun x wr => ∃ k : Nat, k ≤ L.length ∧ x = .int .i64 (k : Int) ∧ Below w.heap.size w wr) (fun x _ => L.length - (intOf x).toNat)
  case atStart => exact ⟨0, Nat.zero_le _, rfl, Below.refl _ _⟩
  case round =>
    obtain ⟨k, hk, rfl, hBr⟩ := hrel
    by_cases hkl : k < L.length
    · obtain ⟨x, hx⟩ := get_some L k hkl
      obtain ⟨G1, b1, c1, e1, p0, p1, p2, pI, _⟩ := (ha.below hBr) k x hx
      obtain ⟨G2, b2, c2, e2, q0, q1, q2, qI, _⟩ := (hb.below hBr) k x hx
      subst e1 e2
      have hxq := hq x (List.mem_of_getElem? hx)
      have k0 : (0 : Int) ≤ (k : Int) := by omega
      have kl : (k : Int) < (L.length : Int) := by omega
      have HS := fun w' (hw : Below wr.heap.size wr w') => sameI b1 b2 c1 c2 x.asks hxq w' (pI.below hw) (qI.below hw)
      generalize digS x.sc = sd at *
      clear hx ha hb
      go_upto_region 6 with fail
      go_region_held3 (fun w' => w'.cell? ⟨G1, k * 3, none⟩ = some (.slice b1 x.asks.length c1) ∧ w'.cell? ⟨G2, k * 3, none⟩ = some (.slice b2 x.asks.length c2))
        (refine ⟨cell_later ?_ p0, cell_later ?_ q0⟩ <;> first | exact Below.refl _ _ | exact (Below.refl _ _).drew | exact hx1 | exact hx1.drew)
        (first | (go_at_call 30; refine (HS _ (by first | exact Below.refl _ _ | exact (Below.refl _ _).drew)).mono ?_; rintro e w2 ⟨rfl, hbb⟩; have hx1 : Below wr.heap.size wr w2 := (by first | exact hbb | exact below_of_drew hbb)))
      have r1 := cell_later hx1 p1
      have r2 := cell_later hx1 p2
      have t1 := cell_later hx1 q1
      have t2 := cell_later hx1 q2
      have hB2 := hBr.trans (hx1.mono hBr.size)
      clear p0 p1 p2 q0 q1 q2 HS
      go_upto_region 7 with fail
      go_quiet (fail)
      go_wp2
      go_roundw
      case rel => exact ⟨k + 1, by omega, by go_num, hB2.trans ((below_drewN _ _).mono hB2.size)⟩
      case measure => (simp [intOf] <;> omega)
    · have kl : ¬ (k : Int) < (L.length : Int) := by omega
      go_wp2
      go_ret
      exact ⟨rfl, hBr⟩

/-! The caller's marks. -/
structure MK (w : World) (G : Nat) (L : List Rp) (ws : List (Nat × Nat)) : Prop where
  len : ws.length = L.length
  out : ∀ (i : Nat) (x : Rp) (gc : Nat × Nat), L[i]? = some x → ws[i]? = some gc → w.cell? ⟨G, i * 3, none⟩ = some (.slice (some ⟨gc.1, 0, none⟩) x.asks.length gc.2) ∧ w.cell? ⟨G, i * 3 + 1, none⟩ = some (.int .i64 x.vd)
  inn : ∀ (i : Nat) (x : Rp) (gc : Nat × Nat), L[i]? = some x → ws[i]? = some gc → ∃ cur : Array Value, w.heap[gc.1]? = some (.cells cur 3 (0, 0)) ∧ cur.size = gc.2 ∧ x.asks.length ≤ gc.2 ∧ gc.2 ≤ maxLen ∧ gc.1 ≠ G
  dis : ∀ (i j : Nat) (a b : Nat × Nat), i ≠ j → ws[i]? = some a → ws[j]? = some b → a.1 ≠ b.1
theorem reps_marks {w : World} {B g n c : Nat} {L : List Rp} {us : List Value} (hn : n = L.length) (h : RepsIn w B (.slice (some ⟨g, 0, none⟩) n c) L us) : ∃ ws, MK w g L ws ∧ ∀ gc ∈ ws, B ≤ gc.1 ∧ gc.1 < w.heap.size := by
  subst hn
  have hget : ∀ u ∈ us, ∃ gu cu nu, u = .slice (some ⟨gu, 0, none⟩) nu cu := by
    intro u hu
    obtain ⟨k, hk⟩ := List.mem_iff_getElem?.1 hu
    have hkl := (List.getElem?_eq_some_iff.1 hk).1
    obtain ⟨x, hx⟩ := get_some L k (by rw [← h.len]; exact hkl)
    have ho := h.fam.own (List.mem_cons_of_mem _ (List.mem_of_getElem? (inn_at us L k u x hk hx)))
    obtain ⟨gu, cu, hv⟩ := row_form ho (h.some u hu)
    exact ⟨gu, cu, _, hv⟩
  let f : Value → Nat × Nat := fun u => match u with
    | .slice (some a) _ cu => (a.block, cu)
    | _ => (0, 0)
  have hws : ∀ (i : Nat) (gc : Nat × Nat), (us.map f)[i]? = some gc → ∀ x, L[i]? = some x → us[i]? = some (.slice (some ⟨gc.1, 0, none⟩) x.asks.length gc.2) := by
    intro i gc hi x hx
    rw [List.getElem?_map, Option.map_eq_some_iff] at hi
    obtain ⟨u, hu, rfl⟩ := hi
    have ho := h.fam.own (List.mem_cons_of_mem _ (List.mem_of_getElem? (inn_at us L i u x hu hx)))
    obtain ⟨gu, cu, hv⟩ := row_form ho (h.some u (List.mem_of_getElem? hu))
    have hv' : u = .slice (some ⟨gu, 0, none⟩) x.asks.length cu := hv
    subst hv'
    exact hu
  have hrow : ∀ (i : Nat) (gc : Nat × Nat) (x : Rp), (us.map f)[i]? = some gc → L[i]? = some x → w.ownsRow B 3 1 (.slice (some ⟨gc.1, 0, none⟩) x.asks.length gc.2) x.asks.length (intV x.asks) := by
    intro i gc x hi hx
    exact h.fam.own (List.mem_cons_of_mem _ (List.mem_of_getElem? (inn_at us L i _ x (hws i gc hi x hx) hx)))
  have hout := h.fam.own (List.mem_cons_self ..)
  have hpw := h.fam.2
  rw [List.pairwise_cons] at hpw
  refine ⟨us.map f, ⟨by simp [h.len], fun i x gc hx hg => ?_, fun i x gc hx hg => ?_, fun i j a b hij ha hb => ?_⟩, fun gc hgc => ?_⟩
  · have hi := (List.getElem?_eq_some_iff.1 hx).1
    have hat := rpsXs_at us L i _ x (hws i gc hg x hx) hx
    exact ⟨by rw [hout.cellAt (i * 3) (by show i * 3 < L.length * 3; omega)]; exact hat 0 _ rfl, by rw [hout.cellAt (i * 3 + 1) (by show i * 3 + 1 < L.length * 3; omega)]; exact hat 1 _ rfl⟩
  · have ho := hrow i gc x hg hx
    rcases ho.2 with ⟨h1, _⟩ | ⟨g2, cap, cur, h1, _, h3, h4, h5, h6, _⟩
    · cases h1
    · simp only [Value.slice.injEq, Option.some.injEq, Addr.mk.injEq, and_true, true_and] at h1
      obtain ⟨rfl, rfl⟩ := h1
      refine ⟨cur, h3, by simpa using h6, h4, h5, fun e => ?_⟩
      have := hpw.1 _ (List.mem_of_getElem? (inn_at us L i _ x (hws i gc hg x hx) hx))
      rcases this with h | h
      · exact h (by show some g = some gc.1; rw [e])
      · cases h
  · have hia := (List.getElem?_eq_some_iff.1 ha).1
    have hib := (List.getElem?_eq_some_iff.1 hb).1
    rw [List.length_map, h.len] at hia hib
    obtain ⟨x, hx⟩ := get_some L i hia
    obtain ⟨y, hy⟩ := get_some L j hib
    have e1 := inn_at us L i _ x (hws i a ha x hx) hx
    have e2 := inn_at us L j _ y (hws j b hb y hy) hy
    obtain ⟨l1, g1⟩ := List.getElem?_eq_some_iff.1 e1
    obtain ⟨l2, g2⟩ := List.getElem?_eq_some_iff.1 e2
    intro he
    rcases Nat.lt_or_gt_of_ne hij with hlt | hlt
    · have := List.pairwise_iff_getElem.1 hpw.2 i j l1 l2 hlt
      rw [g1, g2] at this
      rcases this with h | h
      · exact h (by show some a.1 = some b.1; rw [he])
      · cases h
    · have := List.pairwise_iff_getElem.1 hpw.2 j i l2 l1 hlt
      rw [g1, g2] at this
      rcases this with h | h
      · exact h (by show some b.1 = some a.1; rw [he])
      · cases h
  · obtain ⟨i, hi⟩ := List.mem_iff_getElem?.1 hgc
    have hil := (List.getElem?_eq_some_iff.1 hi).1
    rw [List.length_map, h.len] at hil
    obtain ⟨x, hx⟩ := get_some L i hil
    exact (hrow i gc x hi hx).lt gc.1 rfl
end Go.Proofs.Ytdfndcbakcmgiaa
namespace Go.Proofs.Ytdfndcbakcmgiaa
open Go.RowKit

theorem judgeV_vd (log : List Ev) (ring : List Aq) : 1 ≤ (judgeV log ring).1 ∧ (judgeV log ring).1 ≤ 4 := by
  unfold judgeV
  repeat' split
  all_goals simp
abbrev mk77 (i : Nat) : Int := -77 - (i : Int)
/-- Behind the marks of the first i lists, and of the first k numbers of the next one. -/
structure Mked (w wr : World) (L : List Rp) (ws : List (Nat × Nat)) (i : Nat) : Prop where
  below : Below 0 w wr
  oth : ∀ b, (∀ gc ∈ ws, gc.1 ≠ b) → wr.heap[b]? = w.heap[b]?
  done : ∀ (j : Nat) (gc : Nat × Nat), j < i → ws[j]? = some gc → ∃ cur : Array Value, wr.heap[gc.1]? = some (.cells cur 3 (0, 0)) ∧ cur.size = gc.2 ∧ ∀ k, k < gc.2 → cur[k]? = some (.int .i64 (mk77 j))
  rest : ∀ (j : Nat) (gc : Nat × Nat), i ≤ j → ws[j]? = some gc → wr.heap[gc.1]? = w.heap[gc.1]?
theorem Mked.start (w : World) (L : List Rp) (ws : List (Nat × Nat)) : Mked w w L ws 0 := ⟨Below.refl _ _, fun _ _ => rfl, fun j _ h => absurd h (by omega), fun _ _ _ _ => rfl⟩
theorem Mked.drewN {w wr : World} {L : List Rp} {ws : List (Nat × Nat)} {i : Nat} (h : Mked w wr L ws i) (m : Nat) : Mked w (wr.drewN m) L ws i :=
  ⟨h.below.trans ((below_drewN wr m).mono (Nat.zero_le _)), fun b hb => by rw [show (wr.drewN m).heap = wr.heap by simp]; exact h.oth b hb, fun j gc hj hg => by rw [show (wr.drewN m).heap = wr.heap by simp]; exact h.done j gc hj hg, fun j gc hj hg => by rw [show (wr.drewN m).heap = wr.heap by simp]; exact h.rest j gc hj hg⟩
structure MkedI (w wr : World) (L : List Rp) (ws : List (Nat × Nat)) (i k : Nat) : Prop where
  below : Below 0 w wr
  oth : ∀ b, (∀ gc ∈ ws, gc.1 ≠ b) → wr.heap[b]? = w.heap[b]?
  done : ∀ (j : Nat) (gc : Nat × Nat), j < i → ws[j]? = some gc → ∃ cur : Array Value, wr.heap[gc.1]? = some (.cells cur 3 (0, 0)) ∧ cur.size = gc.2 ∧ ∀ k, k < gc.2 → cur[k]? = some (.int .i64 (mk77 j))
  rest : ∀ (j : Nat) (gc : Nat × Nat), i + 1 ≤ j → ws[j]? = some gc → wr.heap[gc.1]? = w.heap[gc.1]?
  cur : ∀ (gc : Nat × Nat), ws[i]? = some gc → ∃ cur : Array Value, wr.heap[gc.1]? = some (.cells cur 3 (0, 0)) ∧ cur.size = gc.2 ∧ ∀ k', k' < k → cur[k']? = some (.int .i64 (mk77 i))
theorem Mked.toI {w wr : World} {G : Nat} {L : List Rp} {ws : List (Nat × Nat)} {i : Nat} (h : Mked w wr L ws i) (M : MK w G L ws) : MkedI w wr L ws i 0 :=
  ⟨h.below, h.oth, h.done, fun j gc hj hg => h.rest j gc (by omega) hg, fun gc hg => by
    have hi := (List.getElem?_eq_some_iff.1 hg).1
    obtain ⟨x, hx⟩ := get_some L i (by rw [← M.len]; exact hi)
    obtain ⟨cur, h1, h2, _⟩ := M.inn i x gc hx hg
    exact ⟨cur, by rw [h.rest i gc (Nat.le_refl _) hg]; exact h1, h2, fun k hk => absurd hk (by omega)⟩⟩
theorem MkedI.toM {w wr : World} {L : List Rp} {ws : List (Nat × Nat)} {i k : Nat} (h : MkedI w wr L ws i k) (hk : ∀ gc, ws[i]? = some gc → gc.2 ≤ k) : Mked w wr L ws (i + 1) :=
  ⟨h.below, h.oth, fun j gc hj hg => by
    by_cases hji : j = i
    · subst hji
      obtain ⟨cur, h1, h2, h3⟩ := h.cur gc hg
      exact ⟨cur, h1, h2, fun k' hk' => h3 k' (by have := hk gc hg; omega)⟩
    · exact h.done j gc (by omega) hg, h.rest⟩
theorem MkedI.step {w wr : World} {G : Nat} {L : List Rp} {ws : List (Nat × Nat)} {i k : Nat} (h : MkedI w wr L ws i k) (M : MK w G L ws) {gc : Nat × Nat} (hg : ws[i]? = some gc) (hk : k < gc.2) : MkedI w (wr.setCell ⟨gc.1, k, none⟩ (.int .i64 (mk77 i))) L ws i (k + 1) := by
  have hoth : ∀ b, b ≠ gc.1 → (wr.setCell ⟨gc.1, k, none⟩ (.int .i64 (mk77 i))).heap[b]? = wr.heap[b]? := fun b hb => Below.heap_setCell _ _ _ _ hb
  refine ⟨h.below.setCell (Nat.zero_le _) _, fun b hb => ?_, fun j g2 hj hg2 => ?_, fun j g2 hj hg2 => ?_, fun g2 hg2 => ?_⟩
  · rw [hoth b (fun e => hb gc (List.mem_of_getElem? hg) e.symm)]; exact h.oth b hb
  · rw [hoth _ (M.dis j i g2 gc (by omega) hg2 hg)]; exact h.done j g2 hj hg2
  · rw [hoth _ (M.dis j i g2 gc (by omega) hg2 hg)]; exact h.rest j g2 hj hg2
  · rw [hg] at hg2
    cases hg2
    obtain ⟨cur, h1, h2, h3⟩ := h.cur gc hg
    refine ⟨_, heap_setCell_same wr gc.1 k _ _ _ h1, by simpa using h2, fun k' hk' => ?_⟩
    by_cases he : k' = k
    · subst he; rw [Array.getElem?_setIfInBounds_self_of_lt (by omega)]
    · rw [Array.getElem?_setIfInBounds_ne (by omega)]; exact h3 k' (by omega)

set_option maxRecDepth 100000 in
set_option maxHeartbeats 1000000 in
theorem marked_any (a : Option Addr) (G c : Nat) (L : List Rp) (haG : L ≠ [] → a = some ⟨G, 0, none⟩) (ws : List (Nat × Nat)) (hl : L.length ≤ 1000) (w : World) (M : MK w G L ws) :
    Calls Try.prog 34 #[.slice a L.length c] w fun e w' => e = .returned (.tuple #[]) ∧ Below 0 w w' ∧ ∀ b, (∀ gc ∈ ws, gc.1 ≠ b) → w'.heap[b]? = w.heap[b]? := by
  have HaG : Hid (∀ i, i < L.length → a = some ⟨G, 0, none⟩) := fun i hi => haG (by intro e; rw [e] at hi; simp at hi)
  clear haG
  have HG : Hid (∀ gc ∈ ws, gc.1 ≠ G) := fun gc hgc => by
    obtain ⟨i, hi⟩ := List.mem_iff_getElem?.1 hgc
    have hil := (List.getElem?_eq_some_iff.1 hi).1
    obtain ⟨x, hx⟩ := get_some L i (by rw [← M.len]; exact hil)
    obtain ⟨_, _, _, _, _, h⟩ := M.inn i x gc hx hi
    exact h
  go_enter Try.func34, Try.ntmps34
  go_wp2
  go_loopw [2] (fun y wr => ∃ i : Nat, i ≤ L.length ∧ y = .int .i64 (i : Int) ∧ Mked w wr L ws i) (fun y _ => L.length - (intOf y).toNat)
  case atStart => exact ⟨0, Nat.zero_le _, rfl, Mked.start _ _ _⟩
  case round =>
    obtain ⟨i, hi, rfl, hM⟩ := hrel
    have HO : Hid (∀ w' : World, w'.heap[G]? = w.heap[G]? → ∀ (j : Nat) (x : Rp) (gc : Nat × Nat), L[j]? = some x → ws[j]? = some gc → w'.cell? ⟨G, j * 3, none⟩ = some (.slice (some ⟨gc.1, 0, none⟩) x.asks.length gc.2)) := fun w' hb j x gc hx hg => by
      rw [World.cell?_of_block (w := w) (a := ⟨G, j * 3, none⟩) hb]; exact (M.out j x gc hx hg).1
    by_cases hil : i < L.length
    · have haE := HaG.out i hil
      subst haE
      obtain ⟨x, hx⟩ := get_some L i hil
      obtain ⟨gc, hg⟩ := get_some ws i (by rw [M.len]; exact hil)
      obtain ⟨_, _, _, hxl, hml, _⟩ := M.inn i x gc hx hg
      have o0 := HO.out wr (hM.oth G HG.out) i x gc hx hg
      have i0 : (0 : Int) ≤ (i : Int) := by omega
      have il : (i : Int) < (L.length : Int) := by omega
      have c0 : (0 : Int) ≤ (gc.2 : Int) := by omega
      have hMI := hM.toI M
      have HX : Hid (L[i]? = some x ∧ ws[i]? = some gc) := ⟨hx, hg⟩
      unfold maxLen at hml
      clear hx hg
      go_upto_region 3 with fail
      go_quiet (fail)
      go_wp2
      go_loopw [4] (fun y wq => ∃ k : Nat, k ≤ gc.2 ∧ y = .int .i64 (k : Int) ∧ MkedI w wq L ws i k) (fun y _ => gc.2 - (intOf y).toNat)
      case atStart => exact ⟨0, Nat.zero_le _, rfl, (hM.drewN _).toI M⟩
      case round =>
        obtain ⟨k, hk, rfl, hI⟩ := hrel
        clear hM hMI o0
        by_cases hkl : k < gc.2
        · obtain ⟨cur, h1, h2, _⟩ := hI.cur gc HX.out.2
          have ck : wr.cell? ⟨gc.1, k, none⟩ = some (cur.getD k undef) := cellB h1 (by simp [show k < cur.size by omega])
          have zk := frozen_of_row _ _ k _ _ h1
          have k0 : (0 : Int) ≤ (k : Int) := by omega
          have kl : (k : Int) < (gc.2 : Int) := by omega
          have hI2 := hI.step M HX.out.2 hkl
          have HI2 := show Hid _ from hI2
          clear hI hI2 h1
          go_wp2
          go_roundw
          case rel => exact ⟨k + 1, by omega, by go_num, HI2.out⟩
          case measure => (simp [intOf] <;> omega)
        · have kl : ¬ (k : Int) < (gc.2 : Int) := by omega
          have hM2 := hI.toM (fun g2 hg2 => by rw [HX.out.2] at hg2; cases hg2; omega)
          clear hI
          go_wp2
          go_roundw
          case rel => exact ⟨i + 1, by omega, by go_num, hM2⟩
          case measure => (simp [intOf] <;> omega)
    · have il : ¬ (i : Int) < (L.length : Int) := by omega
      have hie : i = L.length := by omega
      subst hie
      have hD := hM.done
      have hoG := hM.oth G HG.out
      have HF : Hid (Below 0 w wr ∧ ∀ b, (∀ gc ∈ ws, gc.1 ≠ b) → wr.heap[b]? = w.heap[b]?) := ⟨hM.below, hM.oth⟩
      have HD := show Hid _ from hD
      have HoG := show Hid _ from hoG
      clear hD hoG hM
      go_wp2
      generalize hV : wr = V at *
      clear hV
      go_loopw [5] (fun y wq => ∃ j : Nat, j ≤ L.length ∧ y = .int .i64 (j : Int) ∧ wq = V) (fun y _ => L.length - (intOf y).toNat)
      case atStart => exact ⟨0, Nat.zero_le _, rfl, rfl⟩
      case round =>
        obtain ⟨j, hj, rfl, hwq⟩ := hrel
        subst hwq
        by_cases hjl : j < L.length
        · have haE := HaG.out j hjl
          subst haE
          obtain ⟨x, hx⟩ := get_some L j hjl
          obtain ⟨gc, hg⟩ := get_some ws j (by rw [M.len]; exact hjl)
          obtain ⟨_, _, _, hxl, hml, _⟩ := M.inn j x gc hx hg
          obtain ⟨cur, h1, h2, h3⟩ := HD.out j gc hjl hg
          have o0 := HO.out wr HoG.out j x gc hx hg
          have HC : Hid (∀ k, k < gc.2 → wr.cell? ⟨gc.1, k, none⟩ = some (.int .i64 (-77 - (j : Int)))) := fun k hk => cellB h1 (h3 k hk)
          have j0 : (0 : Int) ≤ (j : Int) := by omega
          have jl : (j : Int) < (L.length : Int) := by omega
          unfold maxLen at hml
          clear hx hg h1 h2 h3
          go_wp2
          go_loopw [6] (fun y wq => ∃ k : Nat, k ≤ x.asks.length ∧ y = .int .i64 (k : Int) ∧ wq = wr) (fun y _ => x.asks.length - (intOf y).toNat)
          case atStart => exact ⟨0, Nat.zero_le _, rfl, rfl⟩
          case round =>
            obtain ⟨k, hk, rfl, hwq⟩ := hrel
            have hwq2 := hwq.symm
            clear hwq
            subst hwq2
            by_cases hkl : k < x.asks.length
            · have ck := HC.out k (by omega)
              have k0 : (0 : Int) ≤ (k : Int) := by omega
              have kl : (k : Int) < (x.asks.length : Int) := by omega
              go_wp2
              go_roundw
              case rel => exact ⟨k + 1, by omega, by go_num, by first | rfl | trivial⟩
              case measure => (simp [intOf] <;> omega)
            · have kl : ¬ (k : Int) < (x.asks.length : Int) := by omega
              go_wp2
              go_roundw
              case rel => exact ⟨j + 1, by omega, by go_num, by first | rfl | trivial⟩
              case measure => (simp [intOf] <;> omega)
        · have jl : ¬ (j : Int) < (L.length : Int) := by omega
          go_wp2
          go_end0
          exact ⟨rfl, HF.out.1, fun b hb => HF.out.2 b (fun gc hgc => hb gc.1 gc.2 hgc)⟩
theorem reps_marks' {w : World} {B n c : Nat} {a : Option Addr} {L : List Rp} {us : List Value} (hn : n = L.length) (h : RepsIn w B (.slice a n c) L us) : ∃ G ws, (L ≠ [] → a = some ⟨G, 0, none⟩) ∧ MK w G L ws ∧ ∀ gc ∈ ws, B ≤ gc.1 ∧ gc.1 < w.heap.size := by
  subst hn
  by_cases hL : L = []
  · subst hL
    exact ⟨0, [], fun h => absurd rfl h, ⟨rfl, fun i x gc h => by simp at h, fun i x gc h => by simp at h, fun i j a b _ h => by simp at h⟩, fun gc hgc => by cases hgc⟩
  · obtain ⟨G, cap, hv, _⟩ := ownsRow_form (h.fam.own (List.mem_cons_self ..)) (by show L.length ≠ 0; exact fun e => hL (List.eq_nil_of_length_eq_zero e))
    have hv' : (Value.slice a L.length c) = .slice (some ⟨G, 0, none⟩) L.length cap := hv
    simp only [Value.slice.injEq] at hv'
    obtain ⟨rfl, _, rfl⟩ := hv'
    obtain ⟨ws, h1, h2⟩ := reps_marks rfl h
    exact ⟨G, ws, fun _ => rfl, h1, h2⟩
theorem MK.below {w w' : World} {G : Nat} {L : List Rp} {ws : List (Nat × Nat)} (h : MK w G L ws) (hb : Below w.heap.size w w') (hlt : ∀ gc ∈ ws, gc.1 < w.heap.size) : MK w' G L ws :=
  ⟨h.len, fun i x gc hx hg => ⟨cell_later hb (h.out i x gc hx hg).1, cell_later hb (h.out i x gc hx hg).2⟩, fun i x gc hx hg => by
    obtain ⟨cur, h1, h2⟩ := h.inn i x gc hx hg
    exact ⟨cur, by rw [hb.block _ (hlt gc (List.mem_of_getElem? hg))]; exact h1, h2⟩, h.dis⟩
end Go.Proofs.Ytdfndcbakcmgiaa
