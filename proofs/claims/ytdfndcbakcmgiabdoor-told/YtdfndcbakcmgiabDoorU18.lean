import Derived.Test.YtdfndcbakcmgiabDoorU14
import Derived.Test.YtdfndcbakcmgiabDoorU11
namespace Go.Proofs.YtdfndcbakcmgiabDoor
open Go.RowKit

set_option maxRecDepth 100000 in
set_option maxHeartbeats 4000000 in
theorem Reports_any (g c g' c' : Nat) {N : Nat} (hN : N ≤ 5) (log wl : List Ev) (hL : ∀ v ∈ log, EvOk N v) (hl : log.length ≤ 60) (hW : ∀ v ∈ wl, EvOk N v ∧ (stpOf v.txt).kind = 1) (hwl : wl.length ≤ 5) (w : World) (hE : MvsAt w g (log.map mvE)) (hE' : MvsAt w g' (wl.map mvE))
    (hpl : ∀ v ∈ log, ∃ p : Nat, v.place = p) (hpw : ∀ v ∈ wl, ∃ p : Nat, v.place = p) (la : List Aq) (hla : la.map Aq.ak = asks1 log log.length ++ asks2 wl wl.length) (hok : ∀ x ∈ la, x.Ok) (most : Nat) (hm : most ≤ 100) :
    Calls Tryd.prog 21 #[.agg #[.slice (some ⟨g, 0, none⟩) log.length c, .slice (some ⟨g', 0, none⟩) wl.length c'], .int .i64 (most : Int)] w fun e w' => ∃ v us, e = .returned (.tuple #[v, .bool (findS la most).2]) ∧ Below w.heap.size w w' ∧ v.ownBlock ≠ none ∧ RepsIn w' w.heap.size v ((findS la most).1.map (rpOf log la)) us := by
  have hlen : la.length = (asks1 log log.length ++ asks2 wl wl.length).length := by rw [← hla, List.length_map]
  have hl65 : la.length ≤ 100 := by
    have h1 := asks1_len log log.length
    have h2 := asks2_len wl wl.length
    rw [hlen, List.length_append]; omega
  have hB0 : Below w.heap.size w (w.alloc (.cells #[.slice (some ⟨g, 0, none⟩) log.length c, .slice (some ⟨g', 0, none⟩) wl.length c'] 52)) := (Below.refl _ _).alloc (Nat.le_refl _) _
  have x0 : (w.alloc (.cells #[.slice (some ⟨g, 0, none⟩) log.length c, .slice (some ⟨g', 0, none⟩) wl.length c'] 52)).cell? ⟨w.heap.size, 0, none⟩ = some (.slice (some ⟨g, 0, none⟩) log.length c) := cellB (heap_alloc_new _ _) rfl
  have x1 : (w.alloc (.cells #[.slice (some ⟨g, 0, none⟩) log.length c, .slice (some ⟨g', 0, none⟩) wl.length c'] 52)).cell? ⟨w.heap.size, 1, none⟩ = some (.slice (some ⟨g', 0, none⟩) wl.length c') := cellB (heap_alloc_new _ _) rfl
  have HA := AsksT_any g c g' c' log wl hL hl hW hwl _ (hE.below hB0) (hE'.below hB0) hpl hpw
  rw [← hlen, ← hla] at HA
  generalize hX : w.alloc (.cells #[.slice (some ⟨g, 0, none⟩) log.length c, .slice (some ⟨g', 0, none⟩) wl.length c'] 52) = X at *
  have HX : Hid (w.alloc (.cells #[.slice (some ⟨g, 0, none⟩) log.length c, .slice (some ⟨g', 0, none⟩) wl.length c'] 52) = X) := hX
  have hFi := fun w' a ca (ha : AqsAt w' a la) => find_any a ca most la hok hl65 (by omega) w' ha
  have hS1 := findS_ok la most
  have hS2 := findS_in la most
  generalize findS la most = S at *
  obtain ⟨C, mo⟩ := S
  simp only at hS1 hS2 hFi ⊢
  have hE0 := hE.below hB0
  clear hX hE hE' hlen hla
  go_enter Tryd.func21, Tryd.ntmps21
  go_upto_region 1 with fail
  rw [HX.out]
  go_upto_region 2 with (first | (go_at_call 20; refine HA.mono ?_; rintro e w1 ⟨ga, ca, rfl, hb1, hro⟩))
  have ha1 : AqsAt w1 (some ⟨ga, 0, none⟩) la := aqsAt_of (aksAt_row (l := la.map Aq.ak) rfl hro)
  have y0 := cell_later hb1 x0
  have y1 := cell_later hb1 x1
  have hE1 := hE0.below hb1
  have hB1 := hB0.trans (hb1.mono hB0.size)
  go_upto_region 3 with (first | (go_at_call 30; refine (hFi _ _ _ ha1).mono ?_; rintro e w2 ⟨vc, rfl, hb2, hrc⟩))
  obtain ⟨ac, cc, hvc, hcell⟩ : ∃ ac cc, vc = .slice ac C.length cc ∧ ∀ k p, C[k]? = some p → ∃ gc, ac = some ⟨gc, 0, none⟩ ∧ ∀ i v, (chC p)[i]? = some v → w2.cell? ⟨gc, k * 6 + i, none⟩ = some v := by
    rcases hrc.2 with ⟨h1, h2⟩ | ⟨gc, cap, cur, h1, _⟩
    · refine ⟨none, 0, by rw [h1, h2], fun k p hp => ?_⟩
      have := (List.getElem?_eq_some_iff.1 hp).1
      omega
    · subst h1
      refine ⟨_, cap, rfl, fun k p hp => ⟨gc, rfl, fun i v hv => ?_⟩⟩
      have hk := (List.getElem?_eq_some_iff.1 hp).1
      have hi : i < 6 := (Array.getElem?_eq_some_iff.1 hv).1
      rw [hrc.cellAt (k * 6 + i) (by omega)]
      exact chL_at C k p hp i v hv
  subst hvc
  have z0 := cell_later hb2 y0
  have z1 := cell_later hb2 y1
  have hE2 := hE1.below hb2
  have ha2 := ha1.below hb2
  have hB2 := hB1.trans (hb2.mono hB1.size)
  have R0 := RepsIn.start w2
  have hBr0 : Below w2.heap.size w2 (w2.alloc (.cells #[] 35)) := (Below.refl _ _).alloc (Nat.le_refl _) _
  have HCe : Hid (∀ k p, C[k]? = some p → ∃ gc, ac = some ⟨gc, 0, none⟩ ∧ ∀ i v, (chC p)[i]? = some v → w2.cell? ⟨gc, k * 6 + i, none⟩ = some v) := hcell
  clear HA hFi x0 x1 y0 y1 hE0 hE1 ha1 hb1 hb2 hB0 hB1 hro hrc hcell
  go_wp2
  go_loopw [9, 10] (fun v y wr => ∃ (k gv cv : Nat) (us : List Value), k ≤ C.length ∧ y = .int .i64 (k : Int) ∧ v = .slice (some ⟨gv, 0, none⟩) k cv ∧ RepsIn wr w2.heap.size (.slice (some ⟨gv, 0, none⟩) k cv) ((C.take k).map (rpOf log la)) us ∧ Below w2.heap.size w2 wr) (fun _ y _ => C.length - (intOf y).toNat)
  case atStart => exact ⟨0, _, _, [], Nat.zero_le _, rfl, rfl, by simpa using R0, hBr0⟩
  case round =>
    obtain ⟨k, gv, cv, us, hk, rfl, rfl, hR, hB⟩ := hrel
    clear R0 hBr0
    have hsz := hB.size
    by_cases hkl : k < C.length
    · obtain ⟨p, hp⟩ := get_some C k hkl
      obtain ⟨hp5, hp2, hpi⟩ := hS2 p (List.mem_of_getElem? hp)
      obtain ⟨gc, e1, hcl⟩ := HCe.out k p hp
      subst e1
      have k0 : (0 : Int) ≤ (k : Int) := by omega
      have kl : (k : Int) < (C.length : Int) := by omega
      have s0 := hcl 0 (.int .i64 (pAt p 0)) rfl
      have s1 := hcl 1 (.int .i64 (pAt p 1)) rfl
      have s2 := hcl 2 (.int .i64 (pAt p 2)) rfl
      have s3 := hcl 3 (.int .i64 (pAt p 3)) rfl
      have s4 := hcl 4 (.int .i64 (pAt p 4)) rfl
      have s5 := hcl 5 (.int .i64 p.length) rfl
      rw [Nat.add_zero] at s0
      have hRp := fun w' (hb : Below w2.heap.size w2 w') => reportOf_any g c (.slice (some ⟨g', 0, none⟩) wl.length c') log hL hN w' (hE2.below hb) hl (some ⟨ga, 0, none⟩) ca la hok (ha2.below hb) p hp5 hpi _ rfl
      unfold chC at hRp
      have HT : Hid ((C.take (k + 1)).map (rpOf log la) = (C.take k).map (rpOf log la) ++ [rpOf log la p]) := by rw [Hid, List.take_add_one, hp]; simp
      have HRO : Hid (rpOf log la p = ⟨p, (judgeV log (ringOf la p)).1, (judgeV log (ringOf la p)).2⟩) := rfl
      have ownO := hR.fam.own (List.mem_cons_self ..)
      have hLl : ((C.take k).map (rpOf log la)).length = k := by simp; omega
      simp only [hLl] at ownO
      obtain ⟨i3, hi3, hz0, hz1, hz2⟩ := info_split infoRp
      have HRp : Hid (∀ w' (hb : Below w2.heap.size w2 w'), _) := hRp
      generalize judgeV log (ringOf la p) = J at *
      clear hp hcl hRp
      go_upto_region 7 with fail
      go_region_held3 (fun w' => w'.cell? ⟨w.heap.size, 0, none⟩ = some (.slice (some ⟨g, 0, none⟩) log.length c) ∧ w'.cell? ⟨w.heap.size, 1, none⟩ = some (.slice (some ⟨g', 0, none⟩) wl.length c')
          ∧ w'.cell? ⟨gc, k * 6, none⟩ = some (.int .i64 (pAt p 0)) ∧ w'.cell? ⟨gc, k * 6 + 1, none⟩ = some (.int .i64 (pAt p 1)) ∧ w'.cell? ⟨gc, k * 6 + 2, none⟩ = some (.int .i64 (pAt p 2)) ∧ w'.cell? ⟨gc, k * 6 + 3, none⟩ = some (.int .i64 (pAt p 3)) ∧ w'.cell? ⟨gc, k * 6 + 4, none⟩ = some (.int .i64 (pAt p 4)) ∧ w'.cell? ⟨gc, k * 6 + 5, none⟩ = some (.int .i64 p.length))
        (refine ⟨cell_later ?_ z0, cell_later ?_ z1, cell_later ?_ s0, cell_later ?_ s1, cell_later ?_ s2, cell_later ?_ s3, cell_later ?_ s4, cell_later ?_ s5⟩ <;> first | exact hB | exact hB.drew | exact hX3 | exact hX3.drew | exact hX3.alloc hs3 _ | exact (hX3.alloc hs3 _).drew | exact hX3.drew.alloc hs3 _ | exact hB4 | exact hB4.drew)
        (first
          | (go_at_call 31; refine (HRp.out _ (by first | exact hB | exact hB.drew)).mono ?_; rintro e w3 ⟨g3, c3, rfl, hbb, own3⟩; have hx3 : Below wr.heap.size wr w3 := (by first | exact hbb | exact below_of_drew hbb); have hX3 : Below w2.heap.size w2 w3 := hB.trans (hx3.mono hsz); have hs3 := hX3.size; have ownO3 := ownsRow_below ownO hx3)
          | (refine step_append_lies _ (by rfl) _ _ _ (by rfl) w2.heap.size 35 i3 _ 3 48 Tryd.underlying31 hi3 hz0 hz1 hz2 rfl (by omega) _ k (rpsXs us ((C.take k).map (rpOf log la))) (by rfl) (ownO3.alloc _) ⟨w3.heap.size, 0, none⟩ 1 1 [.slice (some ⟨g3, 0, none⟩) p.length c3, .int .i64 J.1, .string (digS J.2)] (by rfl) (by rfl) (World.news_of_block (cs := #[.slice (some ⟨g3, 0, none⟩) p.length c3, .int .i64 J.1, .string (digS J.2)]) (t := 35) (fr := (0, 0)) (heap_alloc_new w3 _)) (by simp [Value.oneCell']) (by omega) (by unfold maxLen; omega) (by omega) (by simp; omega) (w3.heap.size + 1) (by simp) ?_; intro gg cap4 w4 hown4 hgrow hat hlt; have hB4 : Below w2.heap.size w2 w4 := ((hX3.alloc hs3 _).grown hgrow (by simp; omega) (fun k hk => (World.ownsRow.lt ownO3 k hk).1))))
      all_goals
        go_wp2_with fail
        go_roundw
        case rel =>
          refine ⟨k + 1, gg, cap4, us ++ [.slice (some ⟨g3, 0, none⟩) p.length c3], by omega, by go_num, rfl, ?_, hB4⟩
          rw [HT.out, HRO.out]
          refine hR.push (x := ⟨p, J.1, J.2⟩) hsz hx3 own3 (by simp [Value.ownBlock]) ((Below.refl _ _).alloc (Nat.le_refl _) _) hgrow ?_ (by rw [hLl]; exact hown4)
          rcases hat with h | h
          · exact .inl h.symm
          · exact .inr ⟨gg, rfl, by simp; omega⟩
        case measure => (simp [intOf] <;> omega)
    · have kl : ¬ (k : Int) < (C.length : Int) := by omega
      have hke : k = C.length := by omega
      subst hke
      rw [List.take_length] at hR
      go_wp2
      go_ret2
      exact ⟨_, rfl, hB2.trans (hB.mono hB2.size), by simp [Value.ownBlock], us, hR.len, hR.some, ⟨fun r hr => ownsRow_base (hR.fam.1 r hr) hB2.size, hR.fam.2⟩⟩
end Go.Proofs.YtdfndcbakcmgiabDoor
namespace Go.Proofs.YtdfndcbakcmgiabDoor
open Go.RowKit

set_option maxRecDepth 100000 in
set_option maxHeartbeats 2000000 in
theorem predict_bad (s sch : ByteArray) (k : Int) (x : Int) (hx : x ≠ 0) (w : World) (hwd : ∀ w, Calls Tryd.prog 19 #[.string s, .string sch] w fun e w' => e = .returned (.tuple #[nilTr, .int .i64 x]) ∧ Below w.heap.size w w') :
    Calls Tryd.prog 10 #[.string s, .string sch, .int .i64 k] w fun e w' => e = .returned (.tuple #[.slice none 0 0, .bool false, .int .i64 x]) ∧ Below w.heap.size w w' := by
  have hb : (x != 0) = true := by simpa using hx
  go_enter Tryd.func10, Tryd.ntmps10
  go_wp2_with (first | (go_at_call 19; refine (hwd _).mono ?_; rintro e w1 ⟨he, hB1⟩; rw [nilTr] at he; subst he))
  go_ret3
  exact ⟨rfl, hB1.alloc hB1.size _⟩

set_option maxRecDepth 100000 in
set_option maxHeartbeats 2000000 in
theorem predict_arg (s sch : ByteArray) (hsch : sch.size ≤ maxLen) (k : Int) (hk : k < 0 ∨ 100 < k) (w : World) (h0 : (ckP s).1 = 0) (W : Wd) (hW : toLoop sch (beginW (thLoop s 0 0 [])) 0 = some W) :
    Calls Tryd.prog 10 #[.string s, .string sch, .int .i64 k] w fun e w' => e = .returned (.tuple #[.slice none 0 0, .bool false, .int .i64 6]) ∧ Below w.heap.size w w' := by
  have hwd := fun w => traceOf_ok s sch hsch w h0 W hW
  generalize wantsE W W.prog.length = wl at *
  clear hW h0
  rcases hk with hk | hk
  · have hk0 : decide (k < 0) = true := decide_eq_true hk
    go_enter Tryd.func10, Tryd.ntmps10
    go_wp2_with (first | (go_at_call 19; refine (hwd _).mono ?_; rintro e w1 ⟨g, c, g', c', rfl, hm, hm', hB1, hg, hg'⟩))
    go_ret3
    exact ⟨rfl, hB1.alloc hB1.size _⟩
  · have hk0 : ¬ k < 0 := by omega
    have hk1 : decide (k < 0) = false := decide_eq_false hk0
    go_enter Tryd.func10, Tryd.ntmps10
    go_wp2_with (first | (go_at_call 19; refine (hwd _).mono ?_; rintro e w1 ⟨g, c, g', c', rfl, hm, hm', hB1, hg, hg'⟩))
    go_ret3
    exact ⟨rfl, hB1.alloc hB1.size _⟩

theorem askW_to {s sch : ByteArray} (h0 : (ckP s).1 = 0) {W : Wd} (hW : toLoop sch (beginW (thLoop s 0 0 [])) 0 = some W) : AskW W :=
  askW_of (toLoop_inv sch _ 0 _ W rfl (begin_inv s h0) hW).1.good (toLoop_logOk sch _ 0 _ W rfl (begin_inv s h0) (begin_logOk _) hW) (toLoop_logPl sch _ 0 _ W rfl (by rw [begin_log]; intro v hv; simp at hv) hW) (toLoop_logHl sch _ 0 _ W rfl (by rw [begin_log]; intro v hv; simp at hv) hW)

set_option maxRecDepth 100000 in
set_option maxHeartbeats 2000000 in
theorem predict_ok (s sch : ByteArray) (hsch : sch.size ≤ maxLen) (most : Nat) (hm : most ≤ 100) (w : World) (h0 : (ckP s).1 = 0) (W : Wd) (hW : toLoop sch (beginW (thLoop s 0 0 [])) 0 = some W) :
    Calls Tryd.prog 10 #[.string s, .string sch, .int .i64 (most : Int)] w fun e w' => ∃ v us, e = .returned (.tuple #[v, .bool (findS (aqsW W) most).2, .int .i64 0]) ∧ Below w.heap.size w w' ∧ v.ownBlock ≠ none ∧ RepsIn w' w.heap.size v ((findS (aqsW W) most).1.map (rpOf W.log (aqsW W))) us := by
  have I0 := begin_inv s h0
  have hwd := fun w => traceOf_ok s sch hsch w h0 W hW
  have hLO := toLoop_logOk sch _ 0 _ W rfl I0 (begin_logOk _) hW
  have hLP := toLoop_logPl sch _ 0 _ W rfl (by rw [begin_log]; intro v hv; simp at hv) hW
  have I := (toLoop_inv sch _ 0 _ W rfl I0 hW).1
  have A := askW_to h0 hW
  have hok := aqsW_ok A I.good.n5 I.small
  have hA := fun g c g' c' w hE hE' => Reports_any g c g' c' (N := W.prog.length) I.good.n5 W.log (wantsE W W.prog.length) hLO I.small (wantsE_ok I.good) (Nat.le_trans (wantsE_len W _) I.good.n5) w hE hE' hLP (wantsE_pl W _) (aqsW W) (aqsW_ak A) (fun x hx => (hok x hx).1) most hm
  generalize ((findS (aqsW W) most).1.map (rpOf W.log (aqsW W))) = RL at *
  generalize (findS (aqsW W) most).2 = mo at *
  generalize wantsE W W.prog.length = wl at *
  have k0 : ¬ (most : Int) < 0 := by omega
  have k1 : ¬ (100 : Int) < (most : Int) := by omega
  have k0' : decide ((most : Int) < 0) = false := decide_eq_false k0
  have k1' : decide ((100 : Int) < (most : Int)) = false := decide_eq_false k1
  have k2' : decide (100 < most) = false := decide_eq_false (by omega)
  clear hLO hLP I I0 hW h0 hok A
  go_enter Tryd.func10, Tryd.ntmps10
  go_wp2_with (first
    | (go_at_call 19; refine (hwd _).mono ?_; rintro e w1 ⟨g, c, g', c', rfl, hm, hm', hB1, hg, hg'⟩; have hBX := hB1.alloc hB1.size (.cells #[.slice (some ⟨g, 0, none⟩) W.log.length c, .slice (some ⟨g', 0, none⟩) wl.length c'] 52); have hmX := hm.below ((Below.refl _ _).alloc (Nat.le_refl _) (.cells #[.slice (some ⟨g, 0, none⟩) W.log.length c, .slice (some ⟨g', 0, none⟩) wl.length c'] 52)); have hmX' := hm'.below ((Below.refl _ _).alloc (Nat.le_refl _) (.cells #[.slice (some ⟨g, 0, none⟩) W.log.length c, .slice (some ⟨g', 0, none⟩) wl.length c'] 52)))
    | (go_at_call 21; refine (hA _ _ _ _ _ hmX hmX').mono ?_; rintro e w2 ⟨v, us, rfl, hb2, hvn, hR⟩))
  go_ret3
  exact ⟨v, us, rfl, hBX.trans (hb2.mono hBX.size), hvn, hR.len, hR.some, ⟨fun r hr => ownsRow_base (hR.fam.1 r hr) hBX.size, hR.fam.2⟩⟩
end Go.Proofs.YtdfndcbakcmgiabDoor
namespace Go.Proofs.YtdfndcbakcmgiabDoor
open Go.RowKit

/-- Reports as they are read; all lies in blocks from B on. -/
def RpsAt (w : World) (a : Option Addr) (L : List Rp) (B : Nat) : Prop := ∀ (k : Nat) (x : Rp), L[k]? = some x → ∃ G b cb, a = some ⟨G, 0, none⟩ ∧ w.cell? ⟨G, k * 3, none⟩ = some (.slice b x.asks.length cb) ∧ w.cell? ⟨G, k * 3 + 1, none⟩ = some (.int .i64 x.vd) ∧ w.cell? ⟨G, k * 3 + 2, none⟩ = some (.string (digS x.sc)) ∧ IntsAt w b (intN x.asks) ∧ B ≤ G ∧ ∀ p, b = some p → B ≤ p.block
theorem RpsAt.below {w w' : World} {a : Option Addr} {L : List Rp} {B : Nat} (h : RpsAt w a L B) (hb : Below w.heap.size w w') : RpsAt w' a L B := fun k x hx => by
  obtain ⟨G, b, cb, h1, h2, h3, h4, h5, h6⟩ := h k x hx
  exact ⟨G, b, cb, h1, cell_later hb h2, cell_later hb h3, cell_later hb h4, h5.below hb, h6⟩
theorem RpsAt.mono {w : World} {a : Option Addr} {L : List Rp} {B B' : Nat} (h : RpsAt w a L B) (hB : B' ≤ B) : RpsAt w a L B' := fun k x hx => by
  obtain ⟨G, b, cb, h1, h2, h3, h4, h5, h6, h7⟩ := h k x hx
  exact ⟨G, b, cb, h1, h2, h3, h4, h5, Nat.le_trans hB h6, fun p hp => Nat.le_trans hB (h7 p hp)⟩
theorem RpsAt.same {w w' : World} {a : Option Addr} {L : List Rp} {B : Nat} (h : RpsAt w a L B) (hN : ∀ b, B ≤ b → w'.heap[b]? = w.heap[b]?) : RpsAt w' a L B := fun k x hx => by
  obtain ⟨G, b, cb, h1, h2, h3, h4, h5, h6, h7⟩ := h k x hx
  have hc : ∀ o, w'.cell? ⟨G, o, none⟩ = w.cell? ⟨G, o, none⟩ := fun o => World.cell?_of_block (w := w) (a := ⟨G, o, none⟩) (hN G h6)
  refine ⟨G, b, cb, h1, by rw [hc]; exact h2, by rw [hc]; exact h3, by rw [hc]; exact h4, fun j y hy => ?_, h6, h7⟩
  obtain ⟨g, o, e, c⟩ := h5 j y hy
  refine ⟨g, o, e, ?_⟩
  rw [World.cell?_of_block (w := w) (a := ⟨g, o + j, none⟩) (hN g (h7 _ e))]; exact c
theorem rps_row {w : World} {B n c : Nat} {a : Option Addr} {L : List Rp} {us : List Value} (hn : n = L.length) (hl : us.length = L.length) (hr : w.ownsRow B 35 3 (.slice a n c) n (rpsXs us L))
    (he : ∀ (k : Nat) (x : Rp) (u : Value), L[k]? = some x → us[k]? = some u → ∃ b cb, u = .slice b x.asks.length cb ∧ IntsAt w b (intN x.asks) ∧ ∀ p, b = some p → B ≤ p.block) : RpsAt w a L B := fun k x hx => by
  subst hn
  have hk := (List.getElem?_eq_some_iff.1 hx).1
  obtain ⟨u, hu⟩ := get_some us k (by omega)
  obtain ⟨b, cb, h1, h2, h3⟩ := he k x u hx hu
  obtain ⟨G, cap, hv, hBG, _⟩ := ownsRow_form hr (by omega)
  simp only [Value.slice.injEq] at hv
  obtain ⟨rfl, _, rfl⟩ := hv
  subst h1
  have hat := rpsXs_at us L k _ x hu hx
  refine ⟨G, b, cb, rfl, ?_, ?_, ?_, h2, hBG, h3⟩
  · rw [hr.cellAt (k * 3) (by omega)]; exact hat 0 _ rfl
  · rw [hr.cellAt (k * 3 + 1) (by omega)]; exact hat 1 _ rfl
  · rw [hr.cellAt (k * 3 + 2) (by omega)]; exact hat 2 _ rfl
theorem reps_at {w : World} {B n c : Nat} {a : Option Addr} {L : List Rp} {us : List Value} (hn : n = L.length) (h : RepsIn w B (.slice a n c) L us) : RpsAt w a L B := by
  subst hn
  refine rps_row rfl h.len (h.fam.own (List.mem_cons_self ..)) fun k x u hx hu => ?_
  have ho := h.fam.own (List.mem_cons_of_mem _ (List.mem_of_getElem? (inn_at us L k u x hu hx)))
  obtain ⟨gu, cu, hv⟩ := row_form ho (h.some u (List.mem_of_getElem? hu))
  have hv' : u = .slice (some ⟨gu, 0, none⟩) x.asks.length cu := hv
  subst hv'
  exact ⟨_, cu, rfl, intsAt_rowV rfl ho, fun p hp => by cases hp; exact (ho.lt gu rfl).1⟩
end Go.Proofs.YtdfndcbakcmgiabDoor
