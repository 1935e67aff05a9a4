import Derived.Test.YtdfndcbakcmgiaaDoorK10
import Derived.Test.YtdfndcbakcmgiaaDoorK8
import Derived.Deep.AppendLies
import Derived.Deep.RegionHeld3
namespace Go.Proofs.YtdfndcbakcmgiaaDoor
open Go.RowKit

def keyN (x : Nd) : ByteArray := keyS x.W
def digN (x : Nd) : ByteArray := digS x.l
theorem srch_end {b m : Nat} {Q : List Nd} (hm : m ≤ b) (h : Q.drop m = []) : srch b (b - m) Q m = ([], 2) := by
  have hl : Q.length ≤ m := List.drop_eq_nil_iff.1 h
  cases hf : b - m with
  | zero => rw [srch, if_neg (by omega)]
  | succ f => rw [srch, List.getElem?_eq_none hl]
theorem drop_get {Q : List Nd} {m : Nat} {x : Nd} {r : List Nd} (h : Q.drop m = x :: r) : Q[m]? = some x ∧ Q.drop (m + 1) = r ∧ m < Q.length := by
  have hl : m < Q.length := by
    rcases Nat.lt_or_ge m Q.length with h1 | h1
    · exact h1
    · rw [List.drop_eq_nil_of_le h1] at h; cases h
  refine ⟨?_, ?_, hl⟩
  · have := congrArg (·[0]?) h
    simpa using this
  · have := congrArg (List.drop 1) h
    simpa [List.drop_drop] using this
theorem srch_short {b : Nat} {Q : List Nd} {x : Nd} {r : List Nd} (h : Q.drop b = x :: r) : srch b (b - b) Q b = ([], 3) := by
  rw [Nat.sub_self, srch, if_pos (drop_get h).2.2]
theorem srch_go {b m : Nat} {Q : List Nd} {x : Nd} {r : List Nd} (hm : m < b) (h : Q.drop m = x :: r) : srch b (b - m) Q m = if ringW x.W = true then (x.l, 1) else srch b (b - (m + 1)) (kidsF x x.W.prog.length 0 Q) (m + 1) := by
  rw [show b - m = (b - (m + 1)) + 1 by omega, srch, (drop_get h).1]
theorem drop_push {Q A D : List Nd} {m : Nat} {y : Nd} (hm : m ≤ Q.length) (h : Q.drop m = A ++ D) : (Q ++ [y]).drop m = A ++ (D ++ [y]) := by
  rw [List.drop_append_of_le_length hm, h, List.append_assoc]
theorem seen_iff {W0 : Wd} {Q : List Nd} (hok : ∀ x ∈ Q, x.Ok W0) {y : Nd} (hy : y.Ok W0) : (∃ z ∈ Q, keyN z = keyN y) ↔ ∃ z ∈ Q, msOf z.W = msOf y.W := by
  have key : ∀ z ∈ Q, (keyN z = keyN y ↔ msOf z.W = msOf y.W) := fun z hz => keyS_ms (hok z hz).inv.good hy.inv.good (by rw [hy.prog, (hok z hz).prog])
  constructor
  · rintro ⟨z, hz, h⟩; exact ⟨z, hz, (key z hz).1 h⟩
  · rintro ⟨z, hz, h⟩; exact ⟨z, hz, (key z hz).2 h⟩

theorem fresh_at {wa : World} {v : Value} {gg H n c : Nat} (hat : v.ownBlock = some gg ∨ gg = H) (hH : wa.heap.size = H) : Fresh wa v (.slice (some ⟨gg, 0, none⟩) n c) := by
  rcases hat with h | h
  · exact .inl h.symm
  · exact .inr ⟨gg, rfl, by omega⟩
theorem bytes_ne {a b : ByteArray} (h : a ≠ b) : (a.toList == b.toList) = false := by
  refine beq_false_of_ne fun hh => h ?_
  rw [ByteArray.toList_eq, ByteArray.toList_eq] at hh
  exact ByteArray.ext (Array.toList_inj.1 hh)
attribute [local go_sem] guardT
set_option maxRecDepth 100000 in
set_option maxHeartbeats 4000000 in
theorem refSearch_go (s : ByteArray) (h : (ckP s).1 = 0) (hs : s.size ≤ 160) (b : Nat) (hb : b ≤ 400) (w : World) :
    Calls Tryd.prog 5 #[.string s, .int .i64 (b : Int)] w fun e w' => e = .returned (.tuple #[.string (digS (seaR s (b : Int)).1), .int .i64 (seaR s (b : Int)).2, .int .i64 0]) ∧ Below w.heap.size w w' := by
  have I0 := begin_inv s h
  have hn5 := I0.good.n5
  have hl0 : (beginW (thLoop s 0 0 [])).log = [] := rfl
  have hC := refCheck_any s w
  rw [h] at hC
  have hBg := fun w' => begin_any s w' hs
  have HTo : Hid (∀ w' (x : Nd), x.Ok (beginW (thLoop s 0 0 [])) → Calls Tryd.prog 11 #[.string s, .string (digS x.l)] w' fun e w'' => ∃ p, e = .returned (.tuple #[.pointer (some ⟨p, 0, none⟩), .bool true]) ∧ Below w'.heap.size w' w'' ∧ RepW w'' w'.heap.size p x.W) := fun w' x hx => to_nd s h hs x hx w'
  have HTk : Hid (∀ w' (x : Nd) (t : Nat), x.Ok (beginW (thLoop s 0 0 [])) → t < (beginW (thLoop s 0 0 [])).prog.length → stateOf x.W t = 1 → Calls Tryd.prog 11 #[.string s, .string (digS x.l ++ nameS t)] w' fun e w'' => ∃ p, e = .returned (.tuple #[.pointer (some ⟨p, 0, none⟩), .bool true]) ∧ Below w'.heap.size w' w'' ∧ RepW w'' w'.heap.size p (moveT x.W t)) := fun w' x t hx ht h1 => to_kid s h hs x hx t ht h1 w'
  have HTn : Hid (∀ w' (x : Nd) (t : Nat), x.Ok (beginW (thLoop s 0 0 [])) → t < (beginW (thLoop s 0 0 [])).prog.length → stateOf x.W t ≠ 1 → Calls Tryd.prog 11 #[.string s, .string (digS x.l ++ nameS t)] w' fun e w'' => e = .returned (.tuple #[.pointer none, .bool false]) ∧ Below w'.heap.size w' w'') := fun w' x t hx ht h1 => to_none s h hs x hx t ht h1 w'
  have HR : Hid (srch b b [⟨beginW (thLoop s 0 0 []), []⟩] 0 = seaR s (b : Int)) := by rw [Hid, seaR, Int.toNat_natCast]
  generalize seaR s (b : Int) = R at *
  generalize beginW (thLoop s 0 0 []) = W0 at *
  have hok0 : Nd.Ok W0 ⟨W0, []⟩ := ⟨I0, rfl, rfl, fun t ht => absurd ht (by simp), by rw [hl0]; rfl⟩
  have HKy := show Hid (∀ {w' : World} {B p : Nat}, RepW w' B p W0 → _) from fun h => key_rep h I0
  generalize (ckP s).2 = q at *
  have b0 : ¬ (b : Int) < 0 := by omega
  have b4 : ¬ 400 < (b : Int) := by omega
  obtain ⟨i3, hi3, hz0, hz1, hz2⟩ := info_split infoString
  go_enter Tryd.func5, Tryd.ntmps5
  go_upto_region 8 with (first
    | (go_at_call 8; refine hC.mono ?_; rintro e w1 ⟨rfl, hb1⟩)
    | (go_at_call 9; refine (hBg _).mono ?_; rintro e w2 ⟨p2, rfl, hb2, hrep⟩))
  have hB1 := hb1.alloc hb1.size (.cells #[.string ⟨#[]⟩] 9)
  have hB2 := hB1.trans (hb2.mono hB1.size)
  have hKy := HKy.out hrep
  have g0 : w2.cell? ⟨w1.heap.size, 0, none⟩ = some (.string ⟨#[]⟩) := cell_later hb2 (cellB (heap_alloc_new w1 _) rfl)
  clear HKy hrep hC hBg
  go_upto_region 9 with (first | (go_at_call 10; refine hKy.mono ?_; rintro e w3 ⟨rfl, hb3⟩))
  have hB3 := hB2.trans (hb3.mono hB2.size)
  have sq0 := SQ.start hB3 (keyS W0)
  have g3 := cell_later hb3 g0
  have g4 : (w3.alloc (.cells #[.string (keyS W0)] 9)).cell? ⟨w1.heap.size, 0, none⟩ = some (.string ⟨#[]⟩) := cell_later ((Below.refl _ _).alloc (Nat.le_refl _) _) g3
  have lv0 : LvAt (w3.alloc (.cells #[.string (keyS W0)] 9)) (some ⟨w1.heap.size, 0, none⟩) (.slice (some ⟨w3.heap.size, 0, none⟩) 1 1) (.slice none 0 0) [digN ⟨W0, []⟩] := ⟨fun k x hk => by
    have hk0 : k = 0 := by have := (List.getElem?_eq_some_iff.1 hk).1; simpa using this
    subst hk0
    cases hk
    have hlt : w1.heap.size < w3.heap.size := World.block_lt_of_cell? w3 _ g3
    exact ⟨_, rfl, g4, by simp [Value.ownBlock]; omega, by simp [Value.ownBlock]⟩⟩
  generalize w3.alloc (.cells #[.string (keyS W0)] 9) = Z at *
  have hqs : ([⟨W0, []⟩] : List Nd).drop 0 = [⟨W0, []⟩] := rfl
  clear g0 g3 g4 hb1 hb2 hb3 hB1 hB2 hB3 hKy
  go_wp2
  go_loopw [9, 11, 12] (fun lv sv y wr => ∃ (m : Nat) (a : Option Addr) (c : Nat) (vs : Value) (Q LV : List Nd), lv = .slice a LV.length c ∧ vs = sv ∧ y = .int .i64 (m : Int) ∧ SQ w wr vs (.slice none 0 0) (Q.map keyN) [] ∧ LvAt wr a vs (.slice none 0 0) (LV.map digN) ∧ (∀ x ∈ Q, x.Ok W0) ∧ Hid (Q.drop m = LV) ∧ m ≤ b ∧ Q.length ≤ 1 + 5 * m ∧ Hid (srch b (b - m) Q m = R)) (fun _ _ y _ => b - (intOf y).toNat)
  case atStart => exact ⟨0, _, 1, _, [⟨W0, []⟩], [⟨W0, []⟩], rfl, rfl, rfl, sq0, lv0, (fun x hx => by rw [List.mem_singleton.1 hx]; exact hok0), hqs, Nat.zero_le _, by simp, HR⟩
  case round =>
    clear sq0 lv0 hok0 HR hqs
    obtain ⟨m, a, c, vs, Q, LV, rfl, rfl, rfl, sq, lvA, hok, HQ, hmb, hql, HS⟩ := hrel
    by_cases hLV : LV = []
    · subst hLV
      have hR : R = ([], 2) := by rw [← HS.out, srch_end hmb HQ.out]
      subst hR
      have hBw := sq.below
      go_wp2
      go_ret3
      exact ⟨rfl, hBw⟩
    · have hLp : 0 < LV.length := List.length_pos_iff.2 hLV
      have hLI : (0 : Int) < (LV.length : Int) := by omega
      have hLs : LV.length ≤ 3000 := by rw [← HQ.out, List.length_drop]; omega
      have HQ1 : Hid (Q.drop m = LV.drop 0 ++ []) := by rw [Hid, HQ.out]; simp
      have hm0 : m + 0 ≤ b := hmb
      have HS1 : Hid (srch b (b - (m + 0)) Q (m + 0) = R) := HS
      have hql0 : Q.length ≤ 1 + 5 * (m + 0) := hql
      go_wp2
      generalize hX : wr = X at *
      clear hX HS HQ hql
      go_loopw [11, 12, 13, 14] (fun sv y d z wr => ∃ (j : Nat) (vs vd : Value) (Q DV : List Nd), vs = sv ∧ y = .int .i64 ((m + j : Nat) : Int) ∧ vd = d ∧ z = .int .i64 (j : Int) ∧ j ≤ LV.length ∧ m + j ≤ b ∧ SQ w wr vs vd (Q.map keyN) (DV.map digN) ∧ LvAt wr a vs vd (LV.map digN) ∧ (∀ x ∈ Q, x.Ok W0) ∧ Hid (Q.drop (m + j) = LV.drop j ++ DV) ∧ Q.length ≤ 1 + 5 * (m + j) ∧ Hid (srch b (b - (m + j)) Q (m + j) = R)) (fun _ _ _ z _ => LV.length - (intOf z).toNat)
      case atStart => exact ⟨0, _, _, Q, [], rfl, rfl, rfl, rfl, Nat.zero_le _, hm0, sq, lvA, hok, HQ1, hql0, HS1⟩
      case round =>
        clear sq lvA hok HQ1 HS1 hql0 hm0
        obtain ⟨j, vs, vd, Q, DV, rfl, rfl, rfl, rfl, hj, hmb, sq, lvA, hok, HQ, hql, HS⟩ := hrel
        generalize hM : m + j = M at *
        have HM := show Hid _ from hM
        clear hM
        have hBw := sq.below
        by_cases hjl : j < LV.length
        · have jI : (j : Int) < (LV.length : Int) := by omega
          have j0 : (0 : Int) ≤ (j : Int) := by omega
          obtain ⟨x, hx⟩ := get_some LV j hjl
          have hdr : Q.drop M = x :: (LV.drop (j + 1) ++ DV) := by
            rw [HQ.out, List.drop_eq_getElem_cons hjl]
            have : LV[j] = x := by have := (List.getElem?_eq_some_iff.1 hx).2; exact this
            rw [this]; rfl
          obtain ⟨hd1, hd2, hd3⟩ := drop_get hdr
          have hxo := hok x (List.mem_of_getElem? hd1)
          by_cases hMb : M = b
          · have hR : R = ([], 3) := by rw [← HS.out, hMb]; exact srch_short (by rw [← hMb]; exact hdr)
            subst hMb hR
            clear HQ HS hdr hd1 hd2
            go_wp2
            go_ret3
            exact ⟨rfl, hBw⟩
          · have hMI : ((M : Int) == (b : Int)) = false := beq_false_of_ne (by omega)
            obtain ⟨g, ea, gc, gn1, gn2⟩ := lvA.at' j (digN x) (by rw [List.getElem?_map, hx]; rfl)
            subst ea
            rw [digN] at gc
            have HS2 : Hid ((if ringW x.W = true then (x.l, 1) else srch b (b - (M + 1)) (kidsF x W0.prog.length 0 Q) (M + 1)) = R) := by
              rw [Hid, ← HS.out, srch_go (by omega) hdr, hxo.prog]
            have hT := HTo.out wr x hxo
            have HRi := show Hid (∀ {w' : World} {B p : Nat}, RepW w' B p x.W → _) from fun h => ring_rep h hxo.inv
            have HPr := show Hid (∀ {w' : World} {B p : Nat}, RepW w' B p x.W → _) from fun h => prog_rep h hxo.inv
            have HQ2 : Hid (Q.drop (M + 1) = LV.drop (j + 1) ++ DV) := hd2
            have hM1 : M + 1 ≤ Q.length := hd3
            have HLx : Hid ((LV.map digN)[j]? = some (digN x)) := by rw [Hid, List.getElem?_map, hx]; rfl
            clear HS HQ hdr hd1 hd2 hd3 hx
            have hxs := hxo.small
            cases hrg : ringW x.W with
            | true =>
              have hR : R = (x.l, 1) := by rw [← HS2.out, if_pos hrg]
              subst hR
              rw [hrg] at HRi
              go_wp2_with (first
                | (go_at_call 11; refine hT.mono ?_; rintro e w2 ⟨p2, rfl, hb2, hrep⟩; have hRi := HRi.out hrep)
                | (go_at_call 12; refine hRi.mono ?_; rintro e w3 ⟨rfl, hb3⟩; have hB3 := hb2.trans (hb3.mono hb2.size); have gc3 := cell_later hB3 gc))
              go_ret3
              exact ⟨rfl, hBw.trans (hB3.mono hBw.size)⟩
            | false =>
              rw [hrg, if_neg (by decide)] at HS2
              rw [hrg] at HRi
              go_upto_region 22 with (first
                | (go_at_call 11; refine hT.mono ?_; rintro e w2 ⟨p2, rfl, hb2, hrep⟩; have hRi := HRi.out hrep; obtain ⟨hp2, gp, cp, hpc⟩ := HPr.out hrep)
                | (go_at_call 12; refine hRi.mono ?_; rintro e w3 ⟨rfl, hb3⟩))
              have hB3 := hb2.trans (hb3.mono hb2.size)
              have sq3 := sq.later hB3
              have lv3 := lvA.kept (Kt.ofBelow (vs := vs) (vd := vd) hB3)
              have pc3 := cell_later hb3 hpc
              rw [hxo.prog] at pc3
              have pn1 : some p2 ≠ vs.ownBlock := fun hh => by have := (World.ownsRow.lt sq.seen p2 hh.symm).2; omega
              have pn2 : some p2 ≠ vd.ownBlock := fun hh => by have := (World.ownsRow.lt sq.deep p2 hh.symm).2; omega
              have gc3 := cell_later hB3 gc
              clear hrep hRi hpc hb2 hb3 hB3 sq lvA gc hT HRi HPr hBw
              obtain ⟨QE, hQE⟩ : ∃ QE, kidsF x W0.prog.length 0 Q = QE := ⟨_, rfl⟩
              rw [hQE] at HS2
              have HQn : Hid (kidsF x (W0.prog.length - 0) 0 Q = QE) := hQE
              clear hQE
              have hql0 : Q.length ≤ 1 + 5 * M + 0 := hql
              go_wp2
              go_loopw [11, 13, 16] (fun sv d z wr => ∃ (t : Nat) (vs1 vd1 : Value) (Q1 DV1 : List Nd), vs1 = sv ∧ vd1 = d ∧ z = .int .i64 (t : Int) ∧ t ≤ W0.prog.length ∧ SQ w wr vs1 vd1 (Q1.map keyN) (DV1.map digN) ∧ Kt vs vd vs1 vd1 w3 wr ∧ (∀ x ∈ Q1, x.Ok W0) ∧ Hid (Q1.drop (M + 1) = LV.drop (j + 1) ++ DV1) ∧ M + 1 ≤ Q1.length ∧ Q1.length ≤ 1 + 5 * M + t ∧ Hid (kidsF x (W0.prog.length - t) t Q1 = QE)) (fun _ _ z _ => W0.prog.length - (intOf z).toNat)
              case atStart => exact ⟨0, _, _, Q, DV, rfl, rfl, rfl, Nat.zero_le _, sq3, Kt.ofBelow (Below.refl _ _), hok, HQ2, hM1, hql0, HQn⟩
              case round =>
                clear sq3 hok HQ2 hM1 hql0 HQn hql
                obtain ⟨t, vs1, vd1, Q1, DV1, rfl, rfl, rfl, ht, sq1, k1, hok1, HQ1, hM1, hql1, HK⟩ := hrel
                have pc := k1.cell pc3 pn1 pn2
                have gc1 := k1.cell gc3 gn1 gn2
                have lv1 := lv3.kept k1
                by_cases htn : t < W0.prog.length
                · have tI : (t : Int) < (W0.prog.length : Int) := by omega
                  have t0 : (0 : Int) ≤ (t : Int) := by omega
                  have hN := fun w' => name_any t w' (by omega)
                  have hcat : ¬ 9223372036854775807 < (digS x.l).size + (nameS t).size := by rw [digS_size, nameS_size]; omega
                  have HK2 : Hid (kidsF x (W0.prog.length - (t + 1)) (t + 1) (kidQ x Q1 t) = QE) := by
                    rw [Hid, ← HK.out, show W0.prog.length - t = (W0.prog.length - (t + 1)) + 1 by omega, kidsF]
                  clear HK
                  by_cases hst : stateOf x.W t = 1
                  · have hkd := hxo.kid htn hst
                    have hTk := fun w' => HTk.out w' x t hxo htn hst
                    rw [kidQ, if_pos hst] at HK2
                    go_upto_region 25 with fail
                    go_region_held3 (fun w' => w'.cell? ⟨g, j, none⟩ = some (.string (digS x.l)))
                      (first | exact cell_later hbT gc1 | exact gc1 | exact cell_later hbN gc1 | exact cell_later hbN.drew gc1 | go_keep)
                      (first
                        | (go_at_call 13; refine (hN _).mono ?_; rintro e wn ⟨rfl, hbb⟩; have hbN : Below wr.heap.size wr wn := (by first | exact hbb | exact below_of_drew hbb))
                        | (go_at_call 11; refine (hTk _).mono ?_; rintro e wt ⟨pv, rfl, hbt, hrv⟩; have hbT : Below wr.heap.size wr wt := (by first | exact hbN.trans (hbt.mono hbN.size) | exact hbN.trans ((below_of_drew hbt).mono hbN.size))))
                    have sqT := sq1.later hbT
                    have kT := k1.trans (Kt.ofBelow (vs := vs1) (vd := vd1) hbT)
                    have hKv := key_rep hrv hkd.inv
                    obtain ⟨sa, sc, hvs, hsel⟩ := row_at sqT.seen
                    rw [List.length_map] at hvs
                    have hsl : Q1.length ≤ 3000 := by omega
                    have hiff := seen_iff hok1 hkd
                    rw [keyN] at hiff
                    have HIff := show Hid _ from hiff
                    have HEl : Hid (∀ k (y : Nd), Q1[k]? = some y → ∃ g, sa = some ⟨g, 0, none⟩ ∧ wt.cell? ⟨g, k, none⟩ = some (.string (keyN y))) := fun k y hy => by
                      obtain ⟨g, h1, h2, _⟩ := hsel k (keyN y) (by rw [List.getElem?_map, hy]; rfl)
                      exact ⟨g, h1, h2⟩
                    subst hvs
                    clear hsel hiff hrv hTk
                    generalize hky : keyS (moveT x.W t) = ky at *
                    have Hky := show Hid _ from hky
                    clear hky
                    go_upto_region 28 with (first | (go_at_call 10; refine hKv.mono ?_; rintro e wk ⟨rfl, hbk⟩))
                    have HEk : Hid (∀ k (y : Nd), Q1[k]? = some y → ∃ g, sa = some ⟨g, 0, none⟩ ∧ wk.cell? ⟨g, k, none⟩ = some (.string (keyN y))) := fun k y hy => by
                      obtain ⟨g, h1, h2⟩ := HEl.out k y hy
                      exact ⟨g, h1, cell_later hbk h2⟩
                    have sqK := sqT.later hbk
                    have kK := kT.trans (Kt.ofBelow (vd := vd1) hbk)
                    clear HEl sqT kT hKv
                    go_wp2
                    go_loop [20, 21] (fun o z => ∃ (i : Nat) (od : Bool), i ≤ Q1.length ∧ z = .int .i64 (i : Int) ∧ o = .bool od ∧ Hid (od = true ↔ ∃ y ∈ Q1.take i, keyN y = ky)) (fun _ z => Q1.length - (intOf z).toNat)
                    case atStart => exact ⟨0, false, Nat.zero_le _, rfl, rfl, by simp [Hid]⟩
                    case round =>
                      obtain ⟨i, od, hi, rfl, rfl, HO⟩ := hrel
                      by_cases hil : i < Q1.length
                      · have iI : (i : Int) < (Q1.length : Int) := by omega
                        have i0 : (0 : Int) ≤ (i : Int) := by omega
                        obtain ⟨y, hy⟩ := get_some Q1 i hil
                        obtain ⟨gs, es, hcs⟩ := HEk.out i y hy
                        subst es
                        have HO2 : Hid ((∃ z ∈ Q1.take (i + 1), keyN z = ky) ↔ ((∃ z ∈ Q1.take i, keyN z = ky) ∨ keyN y = ky)) := by
                          rw [Hid, List.take_add_one, hy]
                          simp only [Option.toList, List.mem_append, List.mem_singleton]
                          constructor
                          · rintro ⟨z, hz | hz, h⟩
                            · exact .inl ⟨z, hz, h⟩
                            · exact .inr (hz ▸ h)
                          · rintro (⟨z, hz, h⟩ | h)
                            · exact ⟨z, .inl hz, h⟩
                            · exact ⟨y, .inr rfl, h⟩
                        clear hy
                        cases od with
                        | true =>
                          have HO3 : Hid (true = true ↔ ∃ z ∈ Q1.take (i + 1), keyN z = ky) := by rw [Hid, HO2.out]; exact ⟨fun _ => .inl (HO.out.1 rfl), fun _ => rfl⟩
                          go_wp2
                          go_round
                          case rel => exact ⟨i + 1, true, by omega, by go_num, rfl, HO3⟩
                          case measure => (simp [intOf] <;> omega)
                        | false =>
                          by_cases hyk : keyN y = ky
                          · have HO3 : Hid (true = true ↔ ∃ z ∈ Q1.take (i + 1), keyN z = ky) := by rw [Hid, HO2.out]; exact ⟨fun _ => .inr hyk, fun _ => rfl⟩
                            generalize keyN y = yk at *
                            subst hyk
                            go_wp2
                            go_round
                            case rel => exact ⟨i + 1, true, by omega, by go_num, rfl, HO3⟩
                            case measure => (simp [intOf] <;> omega)
                          · have HO3 : Hid (false = true ↔ ∃ z ∈ Q1.take (i + 1), keyN z = ky) := by
                              rw [Hid, HO2.out]
                              exact ⟨fun h => (by cases h), fun h => by
                                rcases h with h | h
                                · have := HO.out.2 h; cases this
                                · exact absurd h hyk⟩
                            have hbe := bytes_ne hyk
                            go_wp2
                            go_round
                            case rel => exact ⟨i + 1, false, by omega, by go_num, rfl, HO3⟩
                            case measure => (simp [intOf] <;> omega)
                      · have iI : ¬ (i : Int) < (Q1.length : Int) := by omega
                        have HO2 : Hid (od = true ↔ ∃ y ∈ Q1, msOf y.W = msOf (moveT x.W t)) := by
                          have := HO.out
                          rw [List.take_of_length_le (by omega)] at this
                          rw [Hid, this]
                          exact HIff.out
                        clear HO HEk HIff
                        cases od with
                        | true =>
                          have hp := putQ_yes (x := ⟨moveT x.W t, x.l ++ [t]⟩) (HO2.out.1 rfl)
                          rw [hp] at HK2
                          clear HO2 hp
                          go_wp2
                          go_roundw
                          case rel => exact ⟨t + 1, _, vd1, Q1, DV1, rfl, rfl, by go_num, by omega, sqK, kK, hok1, HQ1, hM1, by omega, HK2⟩
                          case measure => (simp [intOf] <;> omega)
                        | false =>
                          have hp := putQ_no (Q := Q1) (x := ⟨moveT x.W t, x.l ++ [t]⟩) (fun hh => by have := HO2.out.2 hh; cases this)
                          rw [hp] at HK2
                          clear HO2 hp
                          have hownS := sqK.seen
                          have hws := sqK.below.size
                          have hdl : DV1.length ≤ 3000 := by
                            have h1 := congrArg List.length HQ1.out
                            rw [List.length_drop, List.length_append] at h1
                            omega
                          have hlm : (Q1.map keyN).length = Q1.length := List.length_map ..
                          have hlm2 : (DV1.map digN).length = DV1.length := List.length_map ..
                          have Hlm := show Hid _ from hlm
                          have Hlm2 := show Hid _ from hlm2
                          have h63 : (Q1.map keyN).length + 1 ≤ 1000000 := by omega
                          have hd1 : (DV1.map digN).length + 1 ≤ 1000000 := by omega
                          clear hlm hlm2
                          go_upto_region 34 with fail
                          go_upto_region 35 with (at_builtin; go_loud (refine wpList_appendLit _ rfl _ _ 35 rfl w.heap.size 9 (.string ⟨#[]⟩) 1 16 Tryd.underlying35 infoString rfl (by decide) _ _ _ rfl hownS _ _ rfl rfl rfl ?c2 ?c3 ?c4 ?c5 ?_))
                          all_goals first | rfl | omega | exact hws | (simp [Value.oneCell']; done) | skip
                          intro v5 w5 ho5 hg5 hf5 hn5
                          obtain ⟨sq5, k5⟩ := sqK.pushS (x := ky) ((Below.refl _ _).alloc (Nat.le_refl _) _) (by rw [Hlm.out]; exact ho5) hg5 hf5
                          have kk5 := kK.trans k5
                          have gc5 := kk5.cell gc3 gn1 gn2
                          have lv5 := lv3.kept kk5
                          obtain ⟨ga, eg, _, gm1, gm2⟩ := lv5.at' j (digN x) HLx.out
                          simp only [Option.some.injEq, Addr.mk.injEq, and_true] at eg
                          subst eg
                          have hw5 := sq5.below.size
                          have HPD : Hid (∀ {wn wa w6 : World} {v6 : Value}, Below w5.heap.size w5 wa → w6.ownsRow w.heap.size 9 1 v6 (DV1.length + 1) (strV (DV1.map digN) ++ [Value.string (digS x.l ++ nameS t)]) → wa.grownBy w6 vd1.ownBlock → Fresh wa vd1 v6 → SQ w w6 v5 v6 (Q1.map keyN ++ [ky]) (DV1.map digN ++ [digS x.l ++ nameS t]) ∧ Kt v5 vd1 v5 v6 w5 w6) := fun h1 h2 h3 h4 => sq5.pushD h1 (by rw [Hlm2.out]; exact h2) h3 h4
                          clear hg5 hf5 ho5 hn5 hownS lv5 lv1 k1 kK sqK
                          have hownD := sq5.deep
                          rw [Hlm2.out] at hownD
                          have HOD : Hid (∀ wn, Below w5.heap.size w5 wn → wn.ownsRow w.heap.size 9 1 vd1 DV1.length (strV (DV1.map digN))) := fun wn hb => by have := (sq5.later hb).deep; rw [Hlm2.out] at this; exact this
                          clear hownD
                          have HD2 : Hid (DV1.map digN ++ [digS x.l ++ nameS t] = (DV1 ++ [(⟨moveT x.W t, x.l ++ [t]⟩ : Nd)]).map digN) := by rw [Hid, List.map_append, digS_snoc]; rfl
                          have HQ3 : Hid (Q1.map keyN ++ [ky] = (Q1 ++ [(⟨moveT x.W t, x.l ++ [t]⟩ : Nd)]).map keyN) := by rw [Hid, List.map_append, ← Hky.out]; rfl
                          have HQ4 : Hid ((Q1 ++ [(⟨moveT x.W t, x.l ++ [t]⟩ : Nd)]).drop (M + 1) = LV.drop (j + 1) ++ (DV1 ++ [(⟨moveT x.W t, x.l ++ [t]⟩ : Nd)])) := drop_push hM1 HQ1.out
                          have hok2 : ∀ y ∈ Q1 ++ [(⟨moveT x.W t, x.l ++ [t]⟩ : Nd)], y.Ok W0 := fun y hy => by
                            rcases List.mem_append.1 hy with hy | hy
                            · exact hok1 y hy
                            · rw [List.mem_singleton.1 hy]; exact hkd
                          clear HTo HTk HTn HS2 pc pc3 gc1 lv3 HLx hok1 HQ1 hkd hxo Hky
                          go_upto_region 35 with fail
                          go_region_held3 (fun w' => w'.cell? ⟨g, j, none⟩ = some (.string (digS x.l)))
                            (first | exact k6.cell gc5 gm1 gm2 | exact gc5 | exact cell_later hbN gc5 | exact cell_later hbN.drew gc5 | exact cell_later (hbN.alloc hbN.size _) gc5 | exact cell_later (hbN.alloc hbN.size _).drew gc5 | exact cell_later (hbN.drew.alloc hbN.size _) gc5 | go_keep)
                            (first
                              | (go_at_call 13; refine (hN _).mono ?_; rintro e wn ⟨rfl, hbb⟩; have hbN : Below w5.heap.size w5 wn := (by first | exact hbb | exact below_of_drew hbb); have ownD := HOD.out wn hbN; have hsn := hbN.size)
                              | (refine step_append_lies _ (by rfl) _ _ _ (by rfl) w.heap.size 9 i3 _ 1 16 Tryd.underlying35 hi3 hz0 hz1 hz2 rfl (by omega) _ DV1.length (strV (DV1.map digN)) (by rfl) (ownD.alloc _) ⟨wn.heap.size, 0, none⟩ 1 1 [.string (digS x.l ++ nameS t)] (by rfl) (by rfl) (World.news_of_block (cs := #[.string (digS x.l ++ nameS t)]) (t := 9) (fr := (0, 0)) (heap_alloc_new wn _)) (by simp [Value.oneCell']) (by omega) (by unfold maxLen; omega) (by omega) (by simp; omega) (wn.heap.size + 1) (by simp) ?_; intro gg cap6 w6 hown6 hgrow hat hlt; obtain ⟨sq6, k6⟩ := HPD.out (wn := wn) (hbN.alloc hsn _) hown6 hgrow (fresh_at hat (by simp))))
                          go_wp2
                          go_roundw
                          case rel => exact ⟨t + 1, v5, _, Q1 ++ [⟨moveT x.W t, x.l ++ [t]⟩], DV1 ++ [⟨moveT x.W t, x.l ++ [t]⟩], rfl, rfl, by go_num, by omega, (by rw [HD2.out, HQ3.out] at sq6; exact sq6), kk5.trans k6, hok2, HQ4, by rw [List.length_append]; omega, by rw [List.length_append, List.length_singleton]; omega, HK2⟩
                          case measure => (simp [intOf] <;> omega)
                  · have hTn := fun w' => HTn.out w' x t hxo htn hst
                    rw [kidQ, if_neg hst] at HK2
                    go_upto_region 25 with fail
                    go_region_held3 (fun w' => w'.cell? ⟨g, j, none⟩ = some (.string (digS x.l)))
                      (first | exact cell_later hbT gc1 | exact gc1 | exact cell_later hbN gc1 | exact cell_later hbN.drew gc1 | go_keep)
                      (first
                        | (go_at_call 13; refine (hN _).mono ?_; rintro e wn ⟨rfl, hbb⟩; have hbN : Below wr.heap.size wr wn := (by first | exact hbb | exact below_of_drew hbb))
                        | (go_at_call 11; refine (hTn _).mono ?_; rintro e wt ⟨rfl, hbt⟩; have hbT : Below wr.heap.size wr wt := (by first | exact hbN.trans (hbt.mono hbN.size) | exact hbN.trans ((below_of_drew hbt).mono hbN.size))))
                    all_goals
                      go_wp2
                      go_roundw
                      case rel => exact ⟨t + 1, _, _, Q1, DV1, rfl, rfl, by go_num, by omega, sq1.later hbT, k1.trans (Kt.ofBelow hbT), hok1, HQ1, hM1, by omega, HK2⟩
                      case measure => (simp [intOf] <;> omega)
                · have tI : ¬ (t : Int) < (W0.prog.length : Int) := by omega
                  have hQE : QE = Q1 := by rw [← HK.out, show W0.prog.length - t = 0 by omega]; rfl
                  subst hQE
                  have HM1 : Hid (m + (j + 1) = M + 1) := by rw [Hid, ← HM.out]; omega
                  have hMb2 : M + 1 ≤ b := by omega
                  have hq2 : QE.length ≤ 1 + 5 * (M + 1) := by omega
                  clear HK hql1
                  go_wp2
                  go_roundw
                  case rel => exact ⟨j + 1, vs1, vd1, QE, DV1, rfl, by rw [HM1.out]; go_num, rfl, by go_num, by omega, by rw [HM1.out]; exact hMb2, sq1, lv1, hok1, by rw [HM1.out]; exact HQ1, by rw [HM1.out]; exact hq2, by rw [HM1.out]; exact HS2⟩
                  case measure => (simp [intOf] <;> omega)
        · have jI : ¬ (j : Int) < (LV.length : Int) := by omega
          have hje : j = LV.length := by omega
          obtain ⟨a2, c2, hvd, lv2, sq2⟩ := sq.level
          rw [List.length_map] at hvd
          subst hvd
          have hMm : m < M := by have := HM.out; omega
          have HQ2 : Hid (Q.drop M = DV) := by rw [Hid, HQ.out, hje, List.drop_length]; rfl
          clear HQ hje
          go_wp2
          go_roundw
          case rel => exact ⟨M, a2, c2, vs, Q, DV, rfl, rfl, rfl, sq2, lv2, hok, HQ2, hmb, hql, HS⟩
          case measure => (simp [intOf] <;> omega)
end Go.Proofs.YtdfndcbakcmgiaaDoor
