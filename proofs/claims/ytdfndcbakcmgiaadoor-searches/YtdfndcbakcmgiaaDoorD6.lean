import Derived.Test.YtdfndcbakcmgiaaDoorD3
import Derived.Deep.DrawnRows
import Derived.Deep.RegionLaw
import Derived.Deep.DeepCutAuto
namespace Go.Proofs.YtdfndcbakcmgiaaDoor
open Go.RowKit
attribute [local go_sem ↓] Go.wp_at_zero Go.wp_at_succ

theorem infoEvent : (Tryd.prog.info? 89).map (fun i => (i.zero, i.size, i.bytes)) = some (some (.agg #[.int .i64 0, .int .i64 0, .string ⟨#[]⟩, .string ⟨#[]⟩]), 4, 48) := by kernel_rfl

theorem info_split {P : Program} {e : TypeId} {z : Value} {size bytes : Nat} (hinf : (P.info? e).map (fun i => (i.zero, i.size, i.bytes)) = some (some z, size, bytes)) : ∃ i, P.info? e = some i ∧ i.zero = some z ∧ i.size = size ∧ i.bytes = bytes := by
  obtain ⟨i, hi, hii⟩ := Option.map_eq_some_iff.1 hinf
  simp only [Prod.mk.injEq] at hii
  exact ⟨i, hi, hii.1, hii.2.1, hii.2.2⟩


theorem Fams.below_drew {w wx : World} {B : Nat} {f : List RowD} (h : Fams w B f) (hb : Below w.heap.size w wx) : Fams wx B f := h.below hb

/-- The world behind the first part of a move: the event is logged, the place raised. -/
def stepped (W : Wd) (t n : Nat) (d hs : ByteArray) : Wd := { W with log := W.log ++ [⟨t, n, d, hs⟩], place := W.place.set t (n + 1) }

theorem cell_set_other {w : World} {g j : Nat} {u x : Value} {a : Addr} (hne : g ≠ a.block) (h : w.cell? a = some x) : (w.setCell ⟨g, j, none⟩ u).cell? a = some x := by
  rw [World.cell?_of_block (w := w) (a := a) (Below.heap_setCell w ⟨g, j, none⟩ u a.block (Ne.symm hne))]; exact h

theorem Fams.putL2 {w : World} {B p : Nat} {x : Value} {S : Wd} {pl : List Nat} {v : Six} {inner : List Value} {g n cap t a b : Nat} {bi : Int} (hf : Fams w B (famX p x { S with place := pl.set t a } v inner)) (hv : v.L = .slice (some ⟨g, 0, none⟩) n cap) (hn : n = pl.length) (hbi : bi = b) :
    Fams (w.setCell ⟨g, t, none⟩ (.int .i64 bi)) B (famX p x { S with place := pl.set t b } v inner) := by
  have := hf.putL hv (by simpa using hn) t b bi hbi
  simpa [List.set_set] using this

/-- The world behind a move of thread t, which stands at the instruction d. -/
def moveW (W : Wd) (t n : Nat) (l : List ByteArray) (d hs : ByteArray) : Wd :=
  if 97 ≤ byteI d 0 ∧ byteI d 0 ≤ 102 then { stepped W t n d hs with has := W.has.set (byteI d 0 - 97).toNat (some t) }
  else if 65 ≤ byteI d 0 ∧ byteI d 0 ≤ 70 then { stepped W t n d hs with has := W.has.set (byteI d 0 - 65).toNat none }
  else if byteI d 0 = 62 then { stepped W t n d hs with born := W.born.set (byteI d 1 - 48).toNat true }
  else if byteI d 0 = 33 then { stepped W t n d hs with set := W.set.set (byteI d 1 - 117).toNat true }
  else if byteI d 0 = 126 then { stepped W t n d hs with set := W.set.set (byteI d 1 - 117).toNat false }
  else if byteI d 0 = 63 ∧ W.set[(byteI d 1 - 117).toNat]?.getD false = true then { stepped W t n d hs with place := W.place.set t (min (n + 1 + (byteI d 2 - 48).toNat) l.length) }
  else stepped W t n d hs

set_option maxHeartbeats 8000000 in
set_option maxRecDepth 100000 in
theorem move_any (B p t : Nat) (W : Wd) (w : World) (v : Six) (inner : List Value) {gP cP gB cB gL cL gH cH gS cS : Nat} (hf : Fams w B (famX p v.G W v inner)) (hl : inner.length = W.prog.length) (G : W.Good) (F : Forms W v gP cP gB cB gL cL gH cH gS cS)
    {n : Nat} {l : List ByteArray} {d : ByteArray} (A : At W t n l d) (ht : t < W.prog.length) (hBw : B ≤ w.heap.size) (hlog : W.log.length ≤ 1000) :
    Calls Tryd.prog 27 #[.pointer (some ⟨p, 0, none⟩), .int .i64 t] w fun e w' => e = .returned (.tuple #[]) ∧ Below B w w' ∧ RepW w' B p (moveW W t n l d (holdsOf W t)) := by
  obtain ⟨i0, hi0, hz0, hz1, hz2⟩ := info_split infoEvent
  have h5 := G.n5
  have D := G.dok t l n d A.prog A.txt
  have hd := D.size
  obtain ⟨_, _, _, _, _, _, _, _, _, _, _, _, hW⟩ := RepW.wIn (w := w) (B := B) (p := p) (W := W) ⟨v, inner, hl, hf⟩ G.ok
  have hHolds := fun wx (hx : Below w.heap.size w wx) => Holds_any p t W wx (hW.below hx) G ht t rfl
  have X := hf.xIn hl G.ok F
  obtain ⟨fP, fB, fL, fH, fS, fG, cB', cL', cH', cS', cP', zp, zB, zL, zH, zS, dLp, dHp, dBp, dSp, dPp, dHL, dBL, dSL, dPL⟩ := id X
  have c2 := cL' t n A.place
  obtain ⟨a, c, c3, h3⟩ := cP' t l A.prog
  have hln : n < l.length := (List.getElem?_eq_some_iff.1 A.txt).1
  have hl12 := G.len t l A.prog
  obtain ⟨g, rfl, h5'⟩ := h3 (by intro e; rw [e] at hln; simp at hln)
  have cd := h5' n d A.txt
  have g2 : t < W.place.length := (List.getElem?_eq_some_iff.1 A.place).1
  have t0 : (0 : Int) ≤ (t : Int) := by omega
  have t1 : (t : Int) < (W.place.length : Int) := by omega
  have oG := hf.own (r := ⟨89, 4, v.G, W.log.length, W.log.flatMap evCells⟩) (by simp [famX])
  simp only at oG
  obtain ⟨n0, n1, n2, n3, n4⟩ := hf.farG F
  have hBL : B ≤ gL := by
    have o := hf.own (r := ⟨3, 1, v.L, W.place.length, placeCells W.place⟩) (by simp [famX])
    simp only [F.eL] at o
    exact (o.lt gL rfl).1
  have hBH : B ≤ gH := by
    have o := hf.own (r := ⟨9, 1, v.H, W.has.length, hasCells W.has⟩) (by simp [famX])
    simp only [F.eH] at o
    exact (o.lt gH rfl).1
  have hBB : B ≤ gB := by
    have o := hf.own (r := ⟨4, 1, v.B, W.born.length, W.born.map Value.bool⟩) (by simp [famX])
    simp only [F.eB] at o
    exact (o.lt gB rfl).1
  have hBS : B ≤ gS := by
    have o := hf.own (r := ⟨4, 1, v.S, W.set.length, W.set.map Value.bool⟩) (by simp [famX])
    simp only [F.eS] at o
    exact (o.lt gS rfl).1
  have hBp : B ≤ p := ((hf.own (r := ⟨47, 1, .slice (some ⟨p, 0, none⟩) 6 6, 6, [v.P, v.B, v.L, v.H, v.S, v.G]⟩) (by simp [famX])).lt p rfl).1
  clear hW h3 h5' cB' cL' cH' cS' cP' X
  go_enter Tryd.func27, Tryd.ntmps27
  go_wp2
  go_quiet (fail)
  go_wp2_with (go_at_call 24; refine (hHolds _ (below_drewN _ _)).mono ?_; rintro e w1 ⟨rfl, hb1⟩; have hB1 := below_of_drewN hb1; clear hb1 hHolds)
  have fG1 := cell_later hB1 fG
  have zp1 := frozen_later hB1 fG (zp 5)
  have fL1 := cell_later hB1 fL
  have lp := World.block_lt_of_cell? w1 _ fG1
  simp only at lp
  have c21 := cell_later hB1 c2
  have oG1 : w1.ownsRow B 89 4 v.G W.log.length (W.log.flatMap evCells) := oG.kept (grownBy_of_below hB1) (by cases hv : v.G.ownBlock <;> simp)
  generalize hhs : holdsOf W t = hs
  have HS : Hid (holdsOf W t = hs) := hhs
  clear hhs
  go_cut [] (fun wc => ∃ gg cap, Fams wc B (famX p (.slice (some ⟨gg, 0, none⟩) (W.log.length + 1) cap) { W with log := W.log ++ [⟨t, n, d, hs⟩] } { v with G := .slice (some ⟨gg, 0, none⟩) (W.log.length + 1) cap } inner) ∧ Below B w wc)
  case first =>
    go_region_law
      ((refine step_append_lies _ (by rfl) _ _ _ (by rfl) B 89 i0 _ 4 48 Tryd.underlying45 hi0 hz0 hz1 hz2 rfl (by omega) v.G W.log.length (W.log.flatMap evCells) (by rfl) ((oG1.alloc _).drew)
            ⟨w1.heap.size, 0, none⟩ 1 1 [.int .i64 t, .int .i64 n, .string d, .string hs] (by rfl) (by rfl) (World.news_of_block (cs := #[.int .i64 t, .int .i64 n, .string d, .string hs]) (t := 89) (fr := (0, 0)) (heap_alloc_new w1 _)) (by simp [Value.oneCell'])
            (by omega) (by unfold maxLen; omega) (by omega) (by have := hB1.size; simp; omega) (w1.heap.size + 1) (by simp) ?_; intro gg cap w2 hown2 hgrow hat hlt; have fG2 := cell_append hgrow fG1 n0; have zp2 := frozen_append hgrow fG1 zp1 n0))
    all_goals
      go_wp2_with fail
      go_meet
      case rel =>
        refine ⟨gg, cap, (Fams.logged hf ((hB1.alloc hB1.size _).drew) ⟨t, n, d, hs⟩ gg cap hown2 hgrow (by simpa using hat)).putG, ?_⟩
        exact ((((hB1.mono hBw).alloc (Nat.le_trans hBw hB1.size) _).drew.grown hgrow (by have := hB1.size; simp; omega) (fun k hk => (oG.lt k hk).1))).setCell hBp _
  case rest =>
    obtain ⟨gg, cap, hf2, hB2⟩ := hcut
    have ok2 : Wd.Ok { W with log := W.log ++ [⟨t, n, d, hs⟩] } := ⟨G.ok.np, G.ok.nb, G.ok.nl, G.ok.nh, G.ok.ns⟩
    have F2 : Forms { W with log := W.log ++ [⟨t, n, d, hs⟩] } { v with G := .slice (some ⟨gg, 0, none⟩) (W.log.length + 1) cap } gP cP gB cB gL cL gH cH gS cS := ⟨F.eP, F.eB, F.eL, F.eH, F.eS⟩
    have X2 := hf2.xIn hl ok2 F2
    have fL2 : wc.cell? ⟨p, 2, none⟩ = some (.slice (some ⟨gL, 0, none⟩) W.place.length cL) := X2.fL
    have c22 : wc.cell? ⟨gL, t, none⟩ = some (.int .i64 (n : Int)) := X2.cL' t n A.place
    have zL2 := X2.zL t
    clear fG1 zp1 fL1 lp c21 oG1 hB1 fP fB fL fH fS fG zp zB zL zH zS oG n0 n1 n2 n3 n4 c2 c3 cd X2 hi0 hz0 hz1 hz2
    go_wp2
    go_cut [] (fun wd => Fams wd B (famX p (.slice (some ⟨gg, 0, none⟩) (W.log.length + 1) cap) (stepped W t n d hs) { v with G := .slice (some ⟨gg, 0, none⟩) (W.log.length + 1) cap } inner) ∧ Below B w wd)
    case first =>
      go_region
      all_goals
        go_wp2_with fail
        go_meet
        case rel =>
          exact ⟨(hf2.putL F.eL rfl t (n + 1) _ (by omega)).drew, (hB2.setCell (Nat.le_trans hBL (Nat.le_refl _)) _).drew⟩
    case rest =>
      obtain ⟨hf3, hB3⟩ := hcut
      have ok3 : Wd.Ok (stepped W t n d hs) := ⟨G.ok.np, G.ok.nb, by simp [stepped, G.ok.nl], G.ok.nh, G.ok.ns⟩
      have F3 : Forms (stepped W t n d hs) { v with G := .slice (some ⟨gg, 0, none⟩) (W.log.length + 1) cap } gP cP gB cB gL cL gH cH gS cS := ⟨F.eP, F.eB, by simp [stepped, F.eL], F.eH, F.eS⟩
      have X3 := hf3.xIn hl ok3 F3
      have hsz3 := hB3.size
      have rep : ∀ (w' : World) (W' : Wd), Fams w' B (famX p (.slice (some ⟨gg, 0, none⟩) (W.log.length + 1) cap) W' { v with G := .slice (some ⟨gg, 0, none⟩) (W.log.length + 1) cap } inner) → W'.prog = W.prog → RepW w' B p W' :=
        fun w' W' h e => ⟨_, inner, by rw [e]; exact hl, h⟩
      have lo := byteI_lo d 0
      have hi := byteI_hi d 0
      have hd0 : 0 < d.size := hd
      clear fL2 c22 zL2 hf2 hf hB2 F2 ok2
      have hkind := D.2
      by_cases k1 : 97 ≤ byteI d 0 ∧ byteI d 0 ≤ 102
      · obtain ⟨k, hk⟩ : ∃ k : Nat, byteI d 0 = 97 + k := ⟨(byteI d 0 - 97).toNat, by omega⟩
        have hm : moveW W t n l d hs = { stepped W t n d hs with has := W.has.set k (some t) } := by
          have e : (byteI d 0 - 97).toNat = k := by omega
          rw [moveW, if_pos k1, e]
        have hb0 : (d[0].toNat : Int) = 97 + k := by rw [byteI_in hd0]; exact hk
        have e1 : atI ⟨#[97, 98, 99, 100, 101, 102]⟩ (97 + k) = k := by rw [atI_lock (by omega) (by omega), atR_yes (by omega) (by omega)]; omega
        have e2 : atI ⟨#[65, 66, 67, 68, 69, 70]⟩ (97 + k) = -1 := (atI_give (by omega) (by omega)).trans (atR_no (by omega))
        have b1 : ((97 : Int) + k == 62) = false := by simp; omega
        have b2 : ((97 : Int) + k == 33) = false := by simp; omega
        have b3 : ((97 : Int) + k == 126) = false := by simp; omega
        have b4 : ((97 : Int) + k == 63) = false := by simp; omega
        have hk6 : k < 6 := by omega
        have g4 : k < W.has.length := by rw [G.ok.nh]; omega
        have k0 : (0 : Int) ≤ (k : Int) := by omega
        have k01 : (k : Int) < (W.has.length : Int) := by omega
        have fH3 : wc.cell? ⟨p, 3, none⟩ = some (.slice (some ⟨gH, 0, none⟩) W.has.length cH) := X3.fH
        obtain ⟨o, ho⟩ := get_some W.has k g4
        have cH3 : wc.cell? ⟨gH, k, none⟩ = some (.string (hasS o)) := X3.cH' k o ho
        have zH3 := X3.zH k
        clear X3 D hkind k1 hk ho lo hi
        go_wp2_with (go_at_call 25; refine (at_n _ _ _ (by omega) (by omega) (by decide)).mono ?_; rintro e w2 ⟨rfl, hw⟩; have hw2 := hw.symm; clear hw; subst hw2)
        go_region_held3 (fun w' => w'.cell? ⟨p, 3, none⟩ = some (.slice (some ⟨gH, 0, none⟩) W.has.length cH)) (first | exact fH3 | exact cell_later hb1 fH3 | exact cell_set_other dHp (cell_later hb1 fH3))
          (first | (go_at_call 13; refine (name_any t _ (by omega)).mono ?_; rintro e w1 ⟨rfl, hb1⟩; have cH4 := cell_later hb1 cH3; have zH4 := frozen_later hb1 cH3 zH3))
        go_wp2_with (go_at_call 25; refine (at_n _ _ _ (by omega) (by omega) (by decide)).mono ?_; rintro e w2 ⟨rfl, hw⟩; have hw2 := hw.symm; clear hw; subst hw2)
        go_end0
        refine ⟨rfl, ?_, ?_⟩
        · exact ((hB3.drew.trans (hb1.mono (Nat.le_trans hBw hsz3))).setCell hBH _)
        · rw [HS.out, hm]
          exact rep _ _ ((hf3.drew.below hb1).putH F.eH rfl k (some t) _ rfl) rfl
      by_cases k2 : 65 ≤ byteI d 0 ∧ byteI d 0 ≤ 70
      · obtain ⟨k, hk⟩ : ∃ k : Nat, byteI d 0 = 65 + k := ⟨(byteI d 0 - 65).toNat, by omega⟩
        have hm : moveW W t n l d hs = { stepped W t n d hs with has := W.has.set k none } := by
          have e : (byteI d 0 - 65).toNat = k := by omega
          rw [moveW, if_neg k1, if_pos k2, e]
        have hb0 : (d[0].toNat : Int) = 65 + k := by rw [byteI_in hd0]; exact hk
        have e1 : atI ⟨#[97, 98, 99, 100, 101, 102]⟩ (65 + k) = -1 := (atI_lock (by omega) (by omega)).trans (atR_no (by omega))
        have e2 : atI ⟨#[65, 66, 67, 68, 69, 70]⟩ (65 + k) = k := by rw [atI_give (by omega) (by omega), atR_yes (by omega) (by omega)]; omega
        have b1 : ((65 : Int) + k == 62) = false := by simp; omega
        have b2 : ((65 : Int) + k == 33) = false := by simp; omega
        have b3 : ((65 : Int) + k == 126) = false := by simp; omega
        have b4 : ((65 : Int) + k == 63) = false := by simp; omega
        have hk6 : k < 6 := by omega
        have g4 : k < W.has.length := by rw [G.ok.nh]; omega
        have fH3 : wc.cell? ⟨p, 3, none⟩ = some (.slice (some ⟨gH, 0, none⟩) W.has.length cH) := X3.fH
        obtain ⟨o, ho⟩ := get_some W.has k g4
        have cH3 : wc.cell? ⟨gH, k, none⟩ = some (.string (hasS o)) := X3.cH' k o ho
        have zH3 := X3.zH k
        clear X3 D hkind k1 k2 hk ho lo hi
        go_wp2_with (go_at_call 25; refine (at_n _ _ _ (by omega) (by omega) (by decide)).mono ?_; rintro e w2 ⟨rfl, hw⟩; have hw2 := hw.symm; clear hw; subst hw2)
        go_end0
        refine ⟨rfl, hB3.setCell hBH _, ?_⟩
        rw [HS.out, hm]
        exact rep _ _ (hf3.putH F.eH rfl k none _ rfl) rfl
      by_cases k3 : byteI d 0 = 62
      · obtain ⟨j, hj⟩ : ∃ j : Nat, byteI d 1 = 48 + j := ⟨(byteI d 1 - 48).toNat, by omega⟩
        have hm : moveW W t n l d hs = { stepped W t n d hs with born := W.born.set j true } := by
          have e : (byteI d 1 - 48).toNat = j := by omega
          rw [moveW, if_neg k1, if_neg k2, if_pos k3, e]
        have hw2 : d.size = 2 := by rw [D.1, k3]; rfl
        have hd1 : 1 < d.size := by omega
        have hb0 : (d[0].toNat : Int) = 62 := by rw [byteI_in hd0]; exact k3
        have hb1 : (d[1].toNat : Int) = 48 + j := by rw [byteI_in hd1]; exact hj
        have e1 : atI ⟨#[97, 98, 99, 100, 101, 102]⟩ 62 = -1 := (atI_lock (by omega) (by omega)).trans (atR_no (by omega))
        have e2 : atI ⟨#[65, 66, 67, 68, 69, 70]⟩ 62 = -1 := (atI_give (by omega) (by omega)).trans (atR_no (by omega))
        have hjn : j < W.prog.length := by omega
        have gj : j < W.born.length := by rw [G.ok.nb]; exact hjn
        have fB3 : wc.cell? ⟨p, 1, none⟩ = some (.slice (some ⟨gB, 0, none⟩) W.born.length cB) := X3.fB
        obtain ⟨b, hb⟩ := get_some W.born j gj
        have cB3 : wc.cell? ⟨gB, j, none⟩ = some (.bool b) := X3.cB' j b hb
        have zB3 := X3.zB j
        clear X3 D hkind k1 k2 hj hb lo hi hw2
        go_wp2_with (go_at_call 25; refine (at_n _ _ _ (by omega) (by omega) (by decide)).mono ?_; rintro e w2 ⟨rfl, hw⟩; have hw2 := hw.symm; clear hw; subst hw2)
        go_region
        all_goals
          go_wp2
          go_end0
          refine ⟨rfl, ?_, ?_⟩
          · exact (hB3.setCell hBB _).drew
          · rw [HS.out, hm]
            exact rep _ _ (hf3.putB F.eB rfl j true).drew rfl
      by_cases k4' : byteI d 0 = 33 ∨ byteI d 0 = 126
      · obtain ⟨k, hk⟩ : ∃ k : Nat, byteI d 1 = 117 + k := ⟨(byteI d 1 - 117).toNat, by omega⟩
        have hw2 : d.size = 2 := by rw [D.1, wid, if_pos (by omega)]
        have hd1 : 1 < d.size := by omega
        have hb1 : (d[1].toNat : Int) = 117 + k := by rw [byteI_in hd1]; exact hk
        have hk6 : k < 6 := by omega
        have e3 : atI ⟨#[117, 118, 119, 120, 121, 122]⟩ (117 + k) = k := by rw [atI_flag (by omega) (by omega), atR_yes (by omega) (by omega)]; omega
        have g4 : k < W.set.length := by rw [G.ok.ns]; omega
        have k0 : (0 : Int) ≤ (k : Int) := by omega
        have k01 : (k : Int) < (W.set.length : Int) := by omega
        have fS3 : wc.cell? ⟨p, 4, none⟩ = some (.slice (some ⟨gS, 0, none⟩) W.set.length cS) := X3.fS
        obtain ⟨o, hs1⟩ := get_some W.set k g4
        have cS3 : wc.cell? ⟨gS, k, none⟩ = some (.bool o) := X3.cS' k o hs1
        have zS3 := X3.zS k
        rcases k4' with k4 | k4
        · have hm : moveW W t n l d hs = { stepped W t n d hs with set := W.set.set k true } := by
            have e : (byteI d 1 - 117).toNat = k := by omega
            rw [moveW, if_neg k1, if_neg k2, if_neg k3, if_pos k4, e]
          have hb0 : (d[0].toNat : Int) = 33 := by rw [byteI_in hd0]; exact k4
          have e1 : atI ⟨#[97, 98, 99, 100, 101, 102]⟩ 33 = -1 := (atI_lock (by omega) (by omega)).trans (atR_no (by omega))
          have e2 : atI ⟨#[65, 66, 67, 68, 69, 70]⟩ 33 = -1 := (atI_give (by omega) (by omega)).trans (atR_no (by omega))
          clear X3 D hkind k1 k2 k3 k4 hk hs1 lo hi hw2
          go_wp2_with (go_at_call 25; refine (at_n _ _ _ (by omega) (by omega) (by decide)).mono ?_; rintro e w2 ⟨rfl, hw⟩; have hw2 := hw.symm; clear hw; subst hw2)
          go_region_held3 (fun w' => w'.cell? ⟨p, 4, none⟩ = some (.slice (some ⟨gS, 0, none⟩) W.set.length cS)) (first | exact fS3 | exact cell_set_other dSp fS3)
            (first | (go_at_call 25; refine (at_n _ _ _ (by omega) (by omega) (by decide)).mono ?_; rintro e w2 ⟨rfl, hw⟩; have hw2 := hw.symm; clear hw; subst hw2))
          all_goals
            go_wp2
            go_end0
            refine ⟨rfl, ?_, ?_⟩
            · exact (hB3.setCell hBS _).drew
            · rw [HS.out, hm]
              exact rep _ _ (hf3.putS F.eS rfl k true).drew rfl
        · have hm : moveW W t n l d hs = { stepped W t n d hs with set := W.set.set k false } := by
            have e : (byteI d 1 - 117).toNat = k := by omega
            rw [moveW, if_neg k1, if_neg k2, if_neg k3, if_neg (by omega), if_pos k4, e]
          have hb0 : (d[0].toNat : Int) = 126 := by rw [byteI_in hd0]; exact k4
          have e1 : atI ⟨#[97, 98, 99, 100, 101, 102]⟩ 126 = -1 := (atI_lock (by omega) (by omega)).trans (atR_no (by omega))
          have e2 : atI ⟨#[65, 66, 67, 68, 69, 70]⟩ 126 = -1 := (atI_give (by omega) (by omega)).trans (atR_no (by omega))
          clear X3 D hkind k1 k2 k3 k4 hk hs1 lo hi hw2
          go_wp2_with (go_at_call 25; refine (at_n _ _ _ (by omega) (by omega) (by decide)).mono ?_; rintro e w2 ⟨rfl, hw⟩; have hw2 := hw.symm; clear hw; subst hw2)
          go_region_held3 (fun w' => w'.cell? ⟨p, 4, none⟩ = some (.slice (some ⟨gS, 0, none⟩) W.set.length cS)) (first | exact fS3 | exact cell_set_other dSp fS3)
            (first | (go_at_call 25; refine (at_n _ _ _ (by omega) (by omega) (by decide)).mono ?_; rintro e w2 ⟨rfl, hw⟩; have hw2 := hw.symm; clear hw; subst hw2))
          all_goals
            go_wp2
            go_end0
            refine ⟨rfl, ?_, ?_⟩
            · exact (hB3.setCell hBS _).drew
            · rw [HS.out, hm]
              exact rep _ _ (hf3.putS F.eS rfl k false).drew rfl
      by_cases k5 : byteI d 0 = 63
      · obtain ⟨k, hk⟩ : ∃ k : Nat, byteI d 1 = 117 + k := ⟨(byteI d 1 - 117).toNat, by omega⟩
        obtain ⟨q, hq⟩ : ∃ q : Nat, byteI d 2 = 48 + q := ⟨(byteI d 2 - 48).toNat, by omega⟩
        have hw3 : d.size = 3 := by rw [D.1, k5]; rfl
        have hd1 : 1 < d.size := by omega
        have hd2 : 2 < d.size := by omega
        have hb0 : (d[0].toNat : Int) = 63 := by rw [byteI_in hd0]; exact k5
        have hb1 : (d[1].toNat : Int) = 117 + k := by rw [byteI_in hd1]; exact hk
        have hb2 : (d[2].toNat : Int) = byteI d 2 := byteI_in hd2
        have q49 : 49 ≤ byteI d 2 := by omega
        have q57 : byteI d 2 ≤ 57 := by omega
        have HQ : Hid (byteI d 2 = 48 + q) := hq
        have hk6 : k < 6 := by omega
        have hq9 : q ≤ 9 := by omega
        have e1 : atI ⟨#[97, 98, 99, 100, 101, 102]⟩ 63 = -1 := (atI_lock (by omega) (by omega)).trans (atR_no (by omega))
        have e2 : atI ⟨#[65, 66, 67, 68, 69, 70]⟩ 63 = -1 := (atI_give (by omega) (by omega)).trans (atR_no (by omega))
        have e3 : atI ⟨#[117, 118, 119, 120, 121, 122]⟩ (117 + k) = k := by rw [atI_flag (by omega) (by omega), atR_yes (by omega) (by omega)]; omega
        have g4 : k < W.set.length := by rw [G.ok.ns]; omega
        have k0 : (0 : Int) ≤ (k : Int) := by omega
        have k01 : (k : Int) < (W.set.length : Int) := by omega
        have fS3 : wc.cell? ⟨p, 4, none⟩ = some (.slice (some ⟨gS, 0, none⟩) W.set.length cS) := X3.fS
        obtain ⟨o, hs1⟩ := get_some W.set k g4
        have cS3 : wc.cell? ⟨gS, k, none⟩ = some (.bool o) := X3.cS' k o hs1
        have hk' : (byteI d 1 - 117).toNat = k := by omega
        have hq' : (byteI d 2 - 48).toNat = q := by omega
        cases o with
        | false =>
          have hm : moveW W t n l d hs = stepped W t n d hs := by
            rw [moveW, if_neg k1, if_neg k2, if_neg k3, if_neg (by omega), if_neg (by omega), if_neg (by rw [hk', hs1]; simp)]
          clear X3 D hkind k1 k2 k3 k4' hk hs1 lo hi hw3 k5 hq hk' hq'
          go_wp2_with (go_at_call 25; refine (at_n _ _ _ (by omega) (by omega) (by decide)).mono ?_; rintro e w2 ⟨rfl, hw⟩; have hw2 := hw.symm; clear hw; subst hw2)
          go_quiet ((go_at_call 25; exact Calls.quiet_of_same (at_n _ _ _ (by omega) (by omega) (by decide))))
          go_wp2
          go_end0
          refine ⟨rfl, hB3.trans ((below_drewN _ _).mono (Nat.le_trans hBw hsz3)), ?_⟩
          rw [HS.out, hm]
          exact rep _ _ (hf3.drewN _) rfl
        | true =>
          have hm : moveW W t n l d hs = { stepped W t n d hs with place := W.place.set t (min (n + 1 + q) l.length) } := by
            rw [moveW, if_neg k1, if_neg k2, if_neg k3, if_neg (by omega), if_neg (by omega), if_pos (by rw [hk', hs1]; exact ⟨k5, rfl⟩), hq']
          clear X3 D hkind k1 k2 k3 k4' hk hs1 lo hi hw3 k5 hq hk' hq'
          go_wp2_with (go_at_call 25; refine (at_n _ _ _ (by omega) (by omega) (by decide)).mono ?_; rintro e w2 ⟨rfl, hw⟩; have hw2 := hw.symm; clear hw; subst hw2)
          go_quiet ((go_at_call 25; exact Calls.quiet_of_same (at_n _ _ _ (by omega) (by omega) (by decide))))
          go_wp2
          clear e3
          go_loopw [7] (fun r wr => ∃ (i : Nat) (z : Int), i ≤ q ∧ n + 1 + i ≤ l.length ∧ r = .int .i64 z ∧ Hid (z = q - i) ∧ 0 ≤ z ∧ z ≤ 9 ∧ Below B w wr ∧
              Fams wr B (famX p (.slice (some ⟨gg, 0, none⟩) (W.log.length + 1) cap) { stepped W t n d hs with place := W.place.set t (n + 1 + i) } { v with G := .slice (some ⟨gg, 0, none⟩) (W.log.length + 1) cap } inner)) (fun r _ => (intOf r).toNat)
          case atStart => exact ⟨0, byteI d 2 - 48, by omega, by omega, rfl, by have := HQ.out; show _ = _; omega, by omega, by omega, hB3.trans ((below_drewN _ _).mono (Nat.le_trans hBw hsz3)), hf3.drewN _⟩
          case round =>
            obtain ⟨i, z, hiq, hil, rfl, HZ, hz0, hz9, hBr, hfr⟩ := hrel
            have okr : Wd.Ok { stepped W t n d hs with place := W.place.set t (n + 1 + i) } := ⟨G.ok.np, G.ok.nb, by simp [G.ok.nl, stepped], G.ok.nh, G.ok.ns⟩
            have Fr : Forms { stepped W t n d hs with place := W.place.set t (n + 1 + i) } { v with G := .slice (some ⟨gg, 0, none⟩) (W.log.length + 1) cap } gP cP gB cB gL cL gH cH gS cS := ⟨F.eP, F.eB, by simp [F.eL], F.eH, F.eS⟩
            have Xr := hfr.xIn hl okr Fr
            have fL4 : wr.cell? ⟨p, 2, none⟩ = some (.slice (some ⟨gL, 0, none⟩) W.place.length cL) := by have := Xr.fL; simpa using this
            have cL4 : wr.cell? ⟨gL, t, none⟩ = some (.int .i64 ((n : Int) + 1 + i)) := Xr.cL' t (n + 1 + i) (by simp [g2])
            have zL4 := Xr.zL t
            have fP4 : wr.cell? ⟨p, 0, none⟩ = some (.slice (some ⟨gP, 0, none⟩) W.prog.length cP) := Xr.fP
            obtain ⟨aP, cPP, cP4, _⟩ := Xr.cP' t l A.prog
            clear Xr okr Fr
            by_cases hi : i = q
            · have hzz : z = 0 := by have := HZ.out; omega
              subst hzz
              have hpl : min (n + 1 + q) l.length = n + 1 + i := by omega
              rw [hpl] at hm
              clear hpl
              go_wp2
              go_quiet (fail)
              go_wp2
              go_end0
              refine ⟨rfl, hBr.trans ((below_drewN _ _).mono (Nat.le_trans hBw hBr.size)), ?_⟩
              rw [HS.out, hm]
              exact rep _ _ (hfr.drewN _) rfl
            · have hpos : 0 < z := by have := HZ.out; omega
              by_cases hlen : n + 1 + i < l.length
              · have hlt : (n : Int) + 1 + i < (l.length : Int) := by omega
                go_wp2
                go_quiet (fail)
                go_wp2
                go_region
                all_goals
                  go_wp2
                  go_roundw
                  case rel =>
                    refine ⟨i + 1, z - 1, by omega, by omega, rfl, by have := HZ.out; show _ = _; omega, by omega, by omega, ((hBr.trans ((below_drewN _ _).mono (Nat.le_trans hBw hBr.size))).setCell (p := ⟨gL, t, none⟩) hBL _), ?_⟩
                    exact Fams.putL2 (hfr.drewN _) F.eL rfl (by omega)
                  case measure => simp [intOf]; omega
              · have hpl : min (n + 1 + q) l.length = n + 1 + i := by omega
                rw [hpl] at hm
                have hlt : ¬ ((n : Int) + 1 + i < (l.length : Int)) := by omega
                clear hpl
                go_wp2
                go_quiet (fail)
                go_wp2
                go_end0
                refine ⟨rfl, hBr.trans ((below_drewN _ _).mono (Nat.le_trans hBw hBr.size)), ?_⟩
                rw [HS.out, hm]
                exact rep _ _ (hfr.drewN _) rfl
      · have hm : moveW W t n l d hs = stepped W t n d hs := by
          rw [moveW, if_neg k1, if_neg k2, if_neg k3, if_neg (by omega), if_neg (by omega), if_neg (fun h => k5 h.1)]
        have hb0 := byteI_in hd0
        have e1 : atI ⟨#[97, 98, 99, 100, 101, 102]⟩ (byteI d 0) = -1 := (atI_lock (by omega) (by omega)).trans (atR_no (by omega))
        have e2 : atI ⟨#[65, 66, 67, 68, 69, 70]⟩ (byteI d 0) = -1 := (atI_give (by omega) (by omega)).trans (atR_no (by omega))
        have b1 : (byteI d 0 == 62) = false := by simpa using k3
        have b2 : (byteI d 0 == 33) = false := by simp; omega
        have b3 : (byteI d 0 == 126) = false := by simp; omega
        have b4 : (byteI d 0 == 63) = false := by simpa using k5
        clear X3 D hkind k1 k2 k3 k4' k5
        go_wp2_with (go_at_call 25; refine (at_n _ _ _ (by omega) (by omega) (by decide)).mono ?_; rintro e w2 ⟨rfl, hw⟩; have hw2 := hw.symm; clear hw; subst hw2)
        go_end0
        refine ⟨rfl, hB3, ?_⟩
        rw [HS.out, hm]
        exact rep _ _ hf3 rfl
end Go.Proofs.YtdfndcbakcmgiaaDoor
