import Derived.Test.YtdfndcbakcmgiaaS1
import Derived.Test.YtdfndcbakcmgiaaD12
namespace Go.Proofs.Ytdfndcbakcmgiaa
open Go.RowKit

/-! The log of a world, and what a schedule tells (the reference's side). -/
structure EvOk (n : Nat) (v : Ev) : Prop where
  dok : DOk n v.txt
  th : ∃ t : Nat, v.thread = t ∧ t < n
def LogOk (W : Wd) : Prop := ∀ v ∈ W.log, EvOk W.prog.length v

theorem moveT_logE {W : Wd} (t : Nat) : (moveT W t).log = W.log ++ [⟨t, (W.place[t]?.getD 0 : Nat), (W.prog[t]?.getD [])[W.place[t]?.getD 0]?.getD ⟨#[]⟩, holdsOf W t⟩] := by
  unfold moveT moveW stepped
  repeat' split
  all_goals rfl
theorem moveT_logOk {W : Wd} (I : W.Inv) (h : LogOk W) {t : Nat} (ht : t < W.prog.length) (hs : stateOf W t = 1) : LogOk (moveT W t) := by
  obtain ⟨n, l, d, A, _⟩ := stateOf_at W t (by omega) (by omega) I.good ht
  intro v hv
  rw [moveT_logE, List.mem_append] at hv
  rw [moveT_prog]
  rcases hv with hv | hv
  · exact h v hv
  · simp only [List.mem_singleton] at hv
    subst hv
    refine ⟨?_, t, rfl, ht⟩
    simp only [A.prog, A.place, A.txt, Option.getD_some]
    exact I.good.dok t l n d A.prog A.txt
theorem toLoop_logOk (sch : ByteArray) : ∀ (n k : Nat) (W0 W : Wd), sch.size - k = n → W0.Inv → LogOk W0 → toLoop sch W0 k = some W → LogOk W := by
  intro n
  induction n with
  | zero =>
    intro k W0 W hn I hL h
    rw [toLoop, if_neg (by omega)] at h
    cases h; exact hL
  | succ n ih =>
    intro k W0 W hn I hL h
    rw [toLoop, if_pos (by omega)] at h
    split at h
    · rename_i hc
      exact ih (k + 1) _ W (by omega) (moveT_inv I (by omega) hc.2.2.2) (moveT_logOk I hL (by omega) hc.2.2.2) h
    · cases h
theorem begin_logOk (ths : List ByteArray) : LogOk (beginW ths) := fun v hv => by simp [beginW, madeW] at hv

/-! Texts of instructions. -/
theorem txt_eq {d x : ByteArray} (hs : d.size = x.size) (h : ∀ k, k < d.size → byteI d k = byteI x k) : d = x := by
  apply ByteArray.ext
  apply Array.ext
  · exact hs
  · intro k h1 h2
    have e := h k h1
    rw [← byteI_in (show k < d.size from h1), ← byteI_in (show k < x.size from h2)] at e
    have e2 : d[k].toNat = x[k].toNat := by exact_mod_cast e
    exact UInt8.toNat_inj.1 e2
def twoS (c : Nat) (u : Nat) : ByteArray := ⟨#[UInt8.ofNat c, UInt8.ofNat (48 + u)]⟩
theorem twoS_b0 (c u : Nat) (h : c < 256) : byteI (twoS c u) 0 = c := by
  rw [← byteI_in (show 0 < (twoS c u).size by show 0 < 2; omega)]
  show ((UInt8.ofNat c).toNat : Int) = c
  rw [UInt8.toNat_ofNat']; omega
theorem twoS_b1 (c u : Nat) (h : u ≤ 100) : byteI (twoS c u) 1 = 48 + u := by
  rw [← byteI_in (show 1 < (twoS c u).size by show 1 < 2; omega)]
  show ((UInt8.ofNat (48 + u)).toNat : Int) = 48 + u
  rw [UInt8.toNat_ofNat']; omega
theorem txt_two {n : Nat} {d : ByteArray} (h : DOk n d) {c u : Nat} (hc : c = 60 ∨ c = 62) (hu : u ≤ 100) (h0 : byteI d 0 = c) (h1 : byteI d 1 = 48 + u) : d = twoS c u := by
  have hs : d.size = 2 := by rw [h.1, wid, if_pos (by omega)]
  refine txt_eq (by rw [hs]; rfl) fun k hk => ?_
  have : k = 0 ∨ k = 1 := by omega
  rcases this with rfl | rfl
  · rw [h0, twoS_b0 _ _ (by omega)]
  · rw [h1, twoS_b1 _ _ hu]
theorem start_eq {n : Nat} {d : ByteArray} (h : DOk n d) (u : Nat) (hu : u ≤ 100) : (d.toList == (twoS 62 u).toList) = decide ((stpOf d).kind = 6 ∧ (stpOf d).which = u) := by
  have hk := stpOf_kd h
  by_cases he : d = twoS 62 u
  · have h0 : byteI d 0 = 62 := by rw [he, twoS_b0 _ _ (by omega)]; rfl
    have h1 : byteI d 1 = 48 + u := by rw [he, twoS_b1 _ _ hu]
    have e : (d.toList == (twoS 62 u).toList) = true := by rw [he]; simp
    rw [e]
    generalize stpOf d = x at hk
    cases hk with
    | start v hv _ h1' => symm; simp; omega
    | _ => exfalso; omega
  · have e : (d.toList == (twoS 62 u).toList) = false := by
      refine beq_false_of_ne fun hh => he ?_
      rw [ByteArray.toList_eq, ByteArray.toList_eq] at hh
      apply ByteArray.ext
      exact Array.ext' hh
    rw [e]
    symm
    rw [decide_eq_false_iff_not]
    rintro ⟨h6, hw⟩
    apply he
    generalize stpOf d = x at *
    cases hk with
    | start v hv h0 h1 =>
      simp only at hw
      have : v = u := by omega
      subst this
      exact txt_two h (.inr rfl) hu h0 h1
    | _ => simp at h6
theorem twoS_tail (u : Nat) : (twoS 60 u).extract 1 2 = nameS u := by
  apply ByteArray.ext
  simp [twoS, nameS]
theorem gt_name (u : Nat) : (⟨#[62]⟩ : ByteArray) ++ nameS u = twoS 62 u := by
  apply ByteArray.ext
  simp [twoS, nameS]
theorem nameS_eq (t u : Nat) (ht : t ≤ 100) (hu : u ≤ 100) : ((nameS t).toList == (nameS u).toList) = decide (t = u) := by
  have h := hasS_eq (some t) u hu (fun v hv => by cases hv; exact ht)
  rw [hasS] at h
  rw [h]
  simp

/-- Must an event come ahead of a later one by one of the first reasons? -/
def strB (ta tb : Nat) (xa xb : Stp) : Bool :=
  decide (ta = tb) || decide (xa.kind = 6 ∧ xa.which = tb) || (decide (xb.kind = 7) && (decide (xb.which = ta) || decide (xa.kind = 6 ∧ xa.which = xb.which)))
def strE (a b : Ev) : Bool := strB a.thread.toNat b.thread.toNat (stpOf a.txt) (stpOf b.txt)

attribute [local go_sem] beq_self_eq_true
set_option maxRecDepth 100000 in
set_option maxHeartbeats 4000000 in
theorem straight_any (p i j : Nat) (W : Wd) (w : World) {gP cP gB cB gL cL gH cH gS cS : Nat} {aG : Option Addr} {cG : Nat} (h : WIn w p W gP cP gB cB gL cL gH cH gS cS aG cG) (hn5 : W.prog.length ≤ 5) (a b : Ev) (ha : W.log[i]? = some a) (hb : W.log[j]? = some b) (oa : EvOk W.prog.length a) (ob : EvOk W.prog.length b) (x y : Int) (hx : x = i) (hy : y = j) :
    Calls Try.prog 92 #[.pointer (some ⟨p, 0, none⟩), .int .i64 x, .int .i64 y] w fun e w' => e = .returned (.bool (strE a b)) ∧ Below w.heap.size w w' := by
  subst hx hy
  have hil : i < W.log.length := (List.getElem?_eq_some_iff.1 ha).1
  have hjl : j < W.log.length := (List.getElem?_eq_some_iff.1 hb).1
  obtain ⟨g, hg, hc⟩ := h.cG' (by intro e; rw [e] at hil; simp at hil)
  have fG := h.fG
  obtain ⟨a0, a1, a2, a3⟩ := hc i a ha
  obtain ⟨b0, b1, b2, b3⟩ := hc j b hb
  rw [Nat.mul_comm 4 i] at a0 a1 a2 a3
  rw [Nat.mul_comm 4 j] at b0 b1 b2 b3
  subst hg
  obtain ⟨ta, hta, hta5⟩ := oa.th
  obtain ⟨tb, htb, htb5⟩ := ob.th
  obtain ⟨ath, apl, atx, aho⟩ := a
  obtain ⟨bth, bpl, btx, bho⟩ := b
  simp only at hta htb a0 a1 a2 a3 b0 b1 b2 b3
  have hoa := oa.dok
  have hob := ob.dok
  simp only at hoa hob
  subst hta htb
  have hse := fun u (hu : u ≤ 100) => start_eq hoa u hu
  have hres : strE ⟨ta, apl, atx, aho⟩ ⟨tb, bpl, btx, bho⟩ = strB ta tb (stpOf atx) (stpOf btx) := rfl
  have hkb := stpOf_kd hob
  have lg := World.block_lt_of_cell? _ _ a0
  have lp := World.block_lt_of_cell? _ _ fG
  simp only at lg lp
  have i0 : (0 : Int) ≤ (i : Int) := by omega
  have j0 : (0 : Int) ≤ (j : Int) := by omega
  have il : (i : Int) < (W.log.length : Int) := by omega
  have jl : (j : Int) < (W.log.length : Int) := by omega
  have hNm := fun t (ht : t ≤ 100) w => name_any t w (by omega)
  have x1 : ((w.alloc (.cells #[.int .i64 (ta : Int), .int .i64 apl, .string atx, .string aho] 128)).alloc (.cells #[.int .i64 (tb : Int), .int .i64 bpl, .string btx, .string bho] 128)).cell? ⟨w.heap.size, 0, none⟩ = some (.int .i64 (ta : Int)) := cellB (heap_alloc2_old _ _ _) rfl
  have x2 : ((w.alloc (.cells #[.int .i64 (ta : Int), .int .i64 apl, .string atx, .string aho] 128)).alloc (.cells #[.int .i64 (tb : Int), .int .i64 bpl, .string btx, .string bho] 128)).cell? ⟨w.heap.size, 2, none⟩ = some (.string atx) := cellB (heap_alloc2_old _ _ _) rfl
  have y1 : ((w.alloc (.cells #[.int .i64 (ta : Int), .int .i64 apl, .string atx, .string aho] 128)).alloc (.cells #[.int .i64 (tb : Int), .int .i64 bpl, .string btx, .string bho] 128)).cell? ⟨w.heap.size + 1, 0, none⟩ = some (.int .i64 (tb : Int)) := cellB (heap_alloc2_new _ _ _) rfl
  have y2 : ((w.alloc (.cells #[.int .i64 (ta : Int), .int .i64 apl, .string atx, .string aho] 128)).alloc (.cells #[.int .i64 (tb : Int), .int .i64 bpl, .string btx, .string bho] 128)).cell? ⟨w.heap.size + 1, 2, none⟩ = some (.string btx) := cellB (heap_alloc2_new _ _ _) rfl
  have hBX : Below w.heap.size w ((w.alloc (.cells #[.int .i64 (ta : Int), .int .i64 apl, .string atx, .string aho] 128)).alloc (.cells #[.int .i64 (tb : Int), .int .i64 bpl, .string btx, .string bho] 128)) := (two_new (Below.refl _ _)).2.2.1
  rw [hres]
  have HOB : Hid (DOk W.prog.length btx) := hob
  have HSE : Hid (∀ u, u ≤ 100 → (atx.toList == (twoS 62 u).toList) = decide ((stpOf atx).kind = 6 ∧ (stpOf atx).which = u)) := hse
  have hta1 : ta ≤ 100 := by omega
  have htb1 : tb ≤ 100 := by omega
  have htb2 : (tb : Int) ≤ 100 := by omega
  clear h hc ha hb oa ob hres hoa hob hse
  generalize stpOf atx = xa at *
  generalize hxb : stpOf btx = xb at *
  clear hxb
  have hsz1 : 1 ≤ btx.size := HOB.out.size
  generalize hres : strB ta tb xa xb = res
  have HRES : Hid (strB ta tb xa xb = res) := hres
  clear hres
  go_enter Try.func92, Try.ntmps92
  go_upto_region 3 with fail
  generalize ((w.alloc (.cells #[.int .i64 (ta : Int), .int .i64 apl, .string atx, .string aho] 128)).alloc (.cells #[.int .i64 (tb : Int), .int .i64 bpl, .string btx, .string bho] 128)) = X at *
  clear a0 a1 a2 a3 b0 b1 b2 b3 fG lg lp i0 j0 il jl hil hjl
  by_cases htt : ta = tb
  · subst htt
    have hr : res = true := by rw [← HRES.out]; simp [strB]
    subst hr
    go_quiet (fail)
    go_wp2
    go_ret
    exact ⟨rfl, hBX.trans ((below_drewN _ _).mono hBX.size)⟩
  · have hb1 : ((ta : Int) == (tb : Int)) = false := beq_false_of_ne (by omega)
    have hgn := gt_name tb
    have hns := nameS_size tb
    have hse1 := HSE.out tb htb1
    have HR1 : Hid ((decide (xa.kind = 6 ∧ xa.which = tb) || (decide (xb.kind = 7) && (decide (xb.which = ta) || decide (xa.kind = 6 ∧ xa.which = xb.which)))) = res) := by rw [Hid, ← HRES.out]; simp [strB, htt]
    clear HRES
    generalize decide (xa.kind = 6 ∧ xa.which = tb) = d1 at *
    go_region_held3 (fun w' => w'.cell? ⟨w.heap.size, 0, none⟩ = some (.int .i64 (ta : Int)) ∧ w'.cell? ⟨w.heap.size, 2, none⟩ = some (.string atx) ∧ w'.cell? ⟨w.heap.size + 1, 0, none⟩ = some (.int .i64 (tb : Int)))
      (first | exact ⟨x1, x2, y1⟩ | exact ⟨cell_later hx1 x1, cell_later hx1 x2, cell_later hx1 y1⟩ | exact ⟨cell_later (Below.refl _ _).drew x1, cell_later (Below.refl _ _).drew x2, cell_later (Below.refl _ _).drew y1⟩)
      (first | (go_at_call 51; refine (hNm tb htb1 _).mono ?_; rintro e w2 ⟨rfl, hbb⟩; have hx1 : Below X.heap.size X w2 := (by first | exact hbb | exact below_of_drew hbb)))
    have hBw := hBX.trans (hx1.mono hBX.size)
    have x1' := cell_later hx1 x1
    have x2' := cell_later hx1 x2
    have y2' := cell_later hx1 y2
    cases d1 with
    | true =>
      have hr : res = true := by rw [← HR1.out]; rfl
      subst hr
      go_wp2
      go_ret
      exact ⟨rfl, hBw⟩
    | false =>
      have HR2 : Hid ((decide (xb.kind = 7) && (decide (xb.which = ta) || decide (xa.kind = 6 ∧ xa.which = xb.which))) = res) := by rw [Hid, ← HR1.out]; rfl
      clear HR1 hgn hns hse1 hb1
      have hd0 : 0 < btx.size := by omega
      by_cases hj60 : byteI btx 0 = 60
      · obtain ⟨v, hv, hv1, hxb7, hxbw⟩ : ∃ v : Nat, v < W.prog.length ∧ byteI btx 1 = 48 + v ∧ xb.kind = 7 ∧ xb.which = v := by
          cases hkb with
          | join u hu _ h1 => exact ⟨u, hu, h1, rfl, rfl⟩
          | _ => exfalso; omega
        have hv100 : v ≤ 100 := by omega
        have hbt : btx = twoS 60 v := txt_two HOB.out (.inl rfl) hv100 hj60 hv1
        have HR3 : Hid ((decide (v = ta) || decide (xa.kind = 6 ∧ xa.which = v)) = res) := by
          rw [Hid, ← HR2.out, hxb7, hxbw]
          simp
          have e : ((v : Int) = (ta : Int)) ↔ (v = ta) := by omega
          simp [e]
        clear HR2 hkb hxb7 hxbw HOB hv1
        subst hbt
        have h2s : (twoS 60 v).size = 2 := rfl
        have hby : ((twoS 60 v)[0].toNat : Int) = 60 := rfl
        have htl := twoS_tail v
        have hgn := gt_name v
        have hse1 := HSE.out v hv100
        have hne := nameS_eq ta v hta1 hv100
        have hns := nameS_size v
        clear HSE hj60 hsz1 y2 x1 x2 y1
        have hns' := nameS_size ta
        by_cases hav : ta = v
        · subst hav
          have hr : res = true := by rw [← HR3.out, show decide (ta = ta) = true from decide_eq_true rfl]; rfl
          subst hr
          clear HR3 hse1 hne
          go_upto_region 7 with fail
          first
            | (go_region_law
                (first
                  | (refine step_call (by rfl) 51 #[.int .i64 (ta : Int)] ?_ (hNm ta hta1 _) ?_; (· go_simp); rintro e w3 ⟨rfl, hbb⟩; refine ⟨_, rfl, ?_⟩; have hx2 : Below w2.heap.size w2 w3 := (by first | exact hbb | exact below_of_drew hbb); have y3' := cell_later hx2 y2')))
            | fail
          all_goals
            go_wp2
            go_ret
            exact ⟨rfl, hBw.trans (hx2.mono hBw.size)⟩
        · rw [decide_eq_false hav] at hne
          have HR4 : Hid (decide (xa.kind = 6 ∧ xa.which = v) = res) := by rw [Hid, ← HR3.out, show decide (v = ta) = false from decide_eq_false (fun h => hav h.symm), Bool.false_or]
          rw [HR4.out] at hse1
          clear HR3
          go_upto_region 7 with fail
          go_region_held3 (fun w' => w'.cell? ⟨w.heap.size, 0, none⟩ = some (.int .i64 (ta : Int)) ∧ w'.cell? ⟨w.heap.size, 2, none⟩ = some (.string atx) ∧ w'.cell? ⟨w.heap.size + 1, 2, none⟩ = some (.string (twoS 60 v)))
            (first | exact ⟨x1', x2', y2'⟩ | exact ⟨cell_later hx2 x1', cell_later hx2 x2', cell_later hx2 y2'⟩ | exact ⟨cell_later (Below.refl _ _).drew x1', cell_later (Below.refl _ _).drew x2', cell_later (Below.refl _ _).drew y2'⟩)
            (first | (go_at_call 51; refine (hNm ta hta1 _).mono ?_; rintro e w3 ⟨rfl, hbb⟩; have hx2 : Below w2.heap.size w2 w3 := (by first | exact hbb | exact below_of_drew hbb)))
          go_wp2
          go_ret
          exact ⟨rfl, hBw.trans (hx2.mono hBw.size)⟩
      · have hxb7 : xb.kind ≠ 7 := by
          cases hkb with
          | join u hu h0 _ => exact absurd h0 hj60
          | _ => simp
        have hr : res = false := by rw [← HR2.out, decide_eq_false hxb7]; rfl
        subst hr
        have hbi := byteI_in hd0
        have hb60 : (byteI btx 0 == 60) = false := beq_false_of_ne hj60
        clear HR2 hkb
        go_wp2
        go_ret
        exact ⟨rfl, hBw⟩
end Go.Proofs.Ytdfndcbakcmgiaa
