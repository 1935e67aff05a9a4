import Derived.Test.YtdfndcbakcmgiaaR1
import Derived.Test.YtdfndcbakcmgiaaP3
import Derived.Laws.OwnMore
namespace Go.Proofs.Ytdfndcbakcmgiaa
open Go.RowKit

/-- One mark: i, if it leads to j or to a marked event between. -/
def markL (log : List Ev) (j i k : Nat) (m : List Bool) : List Bool :=
  if k ≤ j then markL log j i (k + 1) (if (k = j ∨ m[k]?.getD false = true) ∧ (log[i]?.bind fun a => log[k]?.map fun b => strE a b).getD false = true then m.set i true else m) else m
termination_by j + 1 - k
def marksL (log : List Ev) (j : Nat) : Nat → List Bool → List Bool
  | 0, m => m
  | c + 1, m => marksL log j c (markL log j c (c + 1) m)
/-- Which events must come ahead of j. -/
def aheadR (log : List Ev) (j : Nat) : List Bool := marksL log j j (List.replicate log.length false)

def mkB (l c : Value) : Sem Value := Instr.makeSlice 82 l c
theorem mkB_fold (l c : Value) : Instr.makeSlice 82 l c = mkB l c := rfl
attribute [local go_sem ↓] mkB_fold
theorem madeB (n : Nat) : (madeCells (Value.bool false).cells (n * 1)).toList = (List.replicate n false).map Value.bool := by
  apply List.ext_getElem?
  intro i
  by_cases h : i < n
  · simp [madeCells, Value.cells, h]
    rw [Nat.mod_one]; rfl
  · simp [madeCells, Value.cells, h]

set_option maxRecDepth 100000 in
set_option maxHeartbeats 4000000 in
theorem ahead_any (p j : Nat) (W : Wd) (w : World) {gP cP gB cB gL cL gH cH gS cS : Nat} {aG : Option Addr} {cG : Nat} (h : WIn w p W gP cP gB cB gL cL gH cH gS cS aG cG) (hn5 : W.prog.length ≤ 5) (hL : LogOk W) (hj : j < W.log.length) (hl : W.log.length ≤ 60) (y : Int) (hy : y = j) :
    Calls Try.prog 62 #[.pointer (some ⟨p, 0, none⟩), .int .i64 y] w fun e w' => ∃ g, e = .returned (.slice (some ⟨g, 0, none⟩) W.log.length W.log.length) ∧ Below w.heap.size w w' ∧ w'.ownsRow w.heap.size 4 1 (.slice (some ⟨g, 0, none⟩) W.log.length W.log.length) W.log.length ((aheadR W.log j).map Value.bool) := by
  subst hy
  obtain ⟨i0, hi0, hz0, hz1, hz2⟩ := info_split infoBool
  obtain ⟨wm, hmk, hom, hgm⟩ := run_make_full (P := Try.prog) w w.heap.size 82 4 i0 (.bool false) 1 Try.underlying82 hi0 hz0 hz1 .i64 .i64 W.log.length (by rw [hz2]; omega) (by unfold maxLen; omega) (Nat.le_refl _)
  rw [mkB_fold] at hmk
  rw [madeB] at hom
  have hBm : Below w.heap.size w wm := below_grown (Below.refl _ _) (Nat.le_refl _) hgm (fun k hk => by cases hk)
  have fG := h.fG
  generalize hres : aheadR W.log j = res
  have HR : Hid (marksL W.log j j (List.replicate W.log.length false) = res) := hres
  clear hres hi0 hz0 hz1 hz2 hgm
  go_enter Try.func62, Try.ntmps62
  go_wp2
  go_loopw [6] (fun x wr => ∃ (c : Nat) (m : List Bool), c ≤ j ∧ m.length = W.log.length ∧ x = .int .i64 ((c : Int) - 1) ∧ Hid (marksL W.log j c m = res) ∧ wr.ownsRow w.heap.size 4 1 (.slice (some ⟨w.heap.size, 0, none⟩) W.log.length W.log.length) W.log.length (m.map Value.bool) ∧ Below w.heap.size w wr) (fun x _ => (intOf x + 1).toNat)
  case atStart => exact ⟨j, _, Nat.le_refl _, by simp, rfl, HR, hom, hBm⟩
  case round =>
    obtain ⟨c, m, hcj, hml, rfl, HE, hown, hBr⟩ := hrel
    clear HR hom hBm hmk
    cases c with
    | zero =>
      have hres : res = m := by have h := HE.out; rw [marksL] at h; exact h.symm
      subst hres
      go_wp2
      go_ret
      exact ⟨w.heap.size, rfl, hBr, hown⟩
    | succ i =>
      have HE1 : Hid (marksL W.log j i (markL W.log j i (i + 1) m) = res) := by have h := HE.out; rw [marksL] at h; exact h
      have hz : (((i + 1 : Nat) : Int) - 1) = (i : Int) := by omega
      rw [hz]
      clear HE
      have hil : i < W.log.length := by omega
      go_wp2
      go_loopw [7] (fun x wx => ∃ (k : Nat) (m : List Bool), i + 1 ≤ k ∧ k ≤ j + 1 ∧ m.length = W.log.length ∧ x = .int .i64 (k : Int) ∧ Hid (marksL W.log j i (markL W.log j i k m) = res) ∧ wx.ownsRow w.heap.size 4 1 (.slice (some ⟨w.heap.size, 0, none⟩) W.log.length W.log.length) W.log.length (m.map Value.bool) ∧ Below w.heap.size w wx) (fun x _ => (j + 1) - (intOf x).toNat)
      case atStart => exact ⟨i + 1, m, Nat.le_refl _, by omega, hml, rfl, HE1, hown, hBr⟩
      case round =>
        obtain ⟨k, m, hik, hkj, hml, rfl, HE, hown, hBr⟩ := hrel
        clear HE1
        have hWr := h.below hBr
        have cellM : ∀ (x : Nat) (b : Bool), m[x]? = some b → wr.cell? ⟨w.heap.size, x, none⟩ = some (.bool b) := fun x b hx => by
          have hxl : x < W.log.length := by rw [← hml]; exact (List.getElem?_eq_some_iff.1 hx).1
          rw [hown.cellAt x (by omega)]
          simp [hx]
        by_cases hk : k ≤ j
        · have hkl : k < W.log.length := by omega
          obtain ⟨a, ha⟩ := get_some W.log i hil
          obtain ⟨b, hb⟩ := get_some W.log k hkl
          have oa := hL a (List.mem_of_getElem? ha)
          have ob := hL b (List.mem_of_getElem? hb)
          have hS := straight_any p i k W wr hWr hn5 a b ha hb oa ob _ _ rfl rfl
          have hlead : (W.log[i]?.bind fun a => W.log[k]?.map fun b => strE a b).getD false = strE a b := by rw [ha, hb]; rfl
          obtain ⟨mk, hmk⟩ := get_some m k (by rw [hml]; exact hkl)
          obtain ⟨mi, hmi⟩ := get_some m i (by rw [hml]; exact hil)
          have ck := cellM k mk hmk
          have ci := cellM i mi hmi
          have zi : wr.frozen? ⟨w.heap.size, i, none⟩ = false := hown.frozenAt i
          have HE2 : Hid (marksL W.log j i (markL W.log j i (k + 1) (if (k = j ∨ mk = true) ∧ strE a b = true then m.set i true else m)) = res) := by
            have hh := HE.out
            rw [markL, if_pos hk, hlead, hmk, Option.getD_some] at hh
            exact hh
          have hst := (hown.stored i (.bool true)).1
          rw [← List.map_set] at hst
          have hlset : (m.set i true).length = W.log.length := by simpa using hml
          have i0 : (0 : Int) ≤ (i : Int) := by omega
          have il : (i : Int) < (W.log.length : Int) := by omega
          have k0 : (0 : Int) ≤ (k : Int) := by omega
          have kl : (k : Int) < (W.log.length : Int) := by omega
          have kj : (k : Int) ≤ (j : Int) := by omega
          clear HE hlead hmk hmi ha hb oa ob cellM hWr
          generalize strE a b = sb at *
          by_cases hkj2 : k = j
          · subst hkj2
            cases sb with
            | true =>
              rw [if_pos ⟨.inl rfl, rfl⟩] at HE2
              go_wp2_with (first | (go_at_call 92; refine hS.mono ?_; rintro e w2 ⟨rfl, hb2⟩; have c2 := cell_later hb2 ci; have z2 := frozen_later hb2 ci zi))
              go_roundw
              case rel =>
                have ho2 := hown.kept (grownBy_of_below hb2) (.inr (by simp [Value.ownBlock]))
                have hs2 := (ho2.stored i (.bool true)).1
                rw [← List.map_set] at hs2
                exact ⟨k + 1, m.set i true, by omega, by omega, hlset, rfl, HE2, hs2, (hBr.trans (hb2.mono hBr.size)).setCell (Nat.le_refl _) _⟩
              case measure => (simp [intOf] <;> omega)
            | false =>
              rw [if_neg (fun hh => by simp at hh)] at HE2
              go_wp2_with (first | (go_at_call 92; refine hS.mono ?_; rintro e w2 ⟨rfl, hb2⟩))
              go_roundw
              case rel =>
                have ho2 := hown.kept (grownBy_of_below hb2) (.inr (by simp [Value.ownBlock]))
                exact ⟨k + 1, m, by omega, by omega, hml, rfl, HE2, ho2, hBr.trans (hb2.mono hBr.size)⟩
              case measure => (simp [intOf] <;> omega)
          · have hb0 : ((k : Int) == (j : Int)) = false := beq_false_of_ne (by omega)
            cases mk with
            | true =>
              cases sb with
              | true =>
                rw [if_pos ⟨.inr rfl, rfl⟩] at HE2
                go_wp2_with (first | (go_at_call 92; refine hS.mono ?_; rintro e w2 ⟨rfl, hb2⟩; have c2 := cell_later hb2 ci; have z2 := frozen_later hb2 ci zi))
                go_roundw
                case rel =>
                  have ho2 := hown.kept (grownBy_of_below hb2) (.inr (by simp [Value.ownBlock]))
                  have hs2 := (ho2.stored i (.bool true)).1
                  rw [← List.map_set] at hs2
                  exact ⟨k + 1, m.set i true, by omega, by omega, hlset, rfl, HE2, hs2, (hBr.trans (hb2.mono hBr.size)).setCell (Nat.le_refl _) _⟩
                case measure => (simp [intOf] <;> omega)
              | false =>
                rw [if_neg (fun hh => by simp at hh)] at HE2
                go_wp2_with (first | (go_at_call 92; refine hS.mono ?_; rintro e w2 ⟨rfl, hb2⟩))
                go_roundw
                case rel =>
                  have ho2 := hown.kept (grownBy_of_below hb2) (.inr (by simp [Value.ownBlock]))
                  exact ⟨k + 1, m, by omega, by omega, hml, rfl, HE2, ho2, hBr.trans (hb2.mono hBr.size)⟩
                case measure => (simp [intOf] <;> omega)
            | false =>
              rw [if_neg (fun hh => hh.1.elim hkj2 (fun h1 => Bool.noConfusion h1))] at HE2
              go_wp2
              go_roundw
              case rel => exact ⟨k + 1, m, by omega, by omega, hml, rfl, HE2, hown, hBr⟩
              case measure => (simp [intOf] <;> omega)
        · have hke : k = j + 1 := by omega
          have kj : ¬ (k : Int) ≤ (j : Int) := by omega
          have HE3 : Hid (marksL W.log j i m = res) := by
            have hh := HE.out
            rw [markL, if_neg hk] at hh
            exact hh
          clear HE
          go_wp2
          go_roundw
          case rel => exact ⟨i, m, by omega, hml, rfl, HE3, hown, hBr⟩
          case measure => (simp [intOf] <;> omega)
end Go.Proofs.Ytdfndcbakcmgiaa
namespace Go.Proofs.Ytdfndcbakcmgiaa
open Go.RowKit

/-- What Before answers of a world. -/
def befW (W : Wd) (i j : Int) : Bool × Int :=
  if i < 0 ∨ j < 0 ∨ (W.log.length : Int) ≤ i ∨ (W.log.length : Int) ≤ j then (false, 6) else ((aheadR W.log j.toNat)[i.toNat]?.getD false, 0)
def befV (s sch : ByteArray) (i j : Int) : Bool × Int :=
  if (ckP s).1 ≠ 0 then (false, (ckP s).1)
  else match toLoop sch (beginW (thLoop s 0 0 [])) 0 with
    | some W => befW W i j
    | none => (false, 5)

theorem markL_len (log : List Ev) (j i : Nat) : ∀ (d k : Nat) (m : List Bool), j + 1 - k = d → (markL log j i k m).length = m.length := by
  intro d
  induction d with
  | zero => intro k m hd; rw [markL, if_neg (by omega)]
  | succ d ih =>
    intro k m hd
    rw [markL, if_pos (by omega), ih (k + 1) _ (by omega)]
    split
    · simp
    · rfl
theorem marksL_len (log : List Ev) (j : Nat) : ∀ (c : Nat) (m : List Bool), (marksL log j c m).length = m.length
  | 0, m => rfl
  | c + 1, m => by rw [marksL, marksL_len log j c, markL_len log j c _ _ _ rfl]
theorem aheadR_len (log : List Ev) (j : Nat) : (aheadR log j).length = log.length := by rw [aheadR, marksL_len]; simp

theorem refBefore_bad (s sch : ByteArray) (i j a : Int) (ha : a ≠ 0) (w : World) (hwd : ∀ w, Calls Try.prog 49 #[.string s, .string sch] w fun e w' => e = .returned (.tuple #[.pointer none, .int .i64 a]) ∧ Below w.heap.size w w') :
    Calls Try.prog 26 #[.string s, .string sch, .int .i64 i, .int .i64 j] w fun e w' => e = .returned (.tuple #[.bool false, .int .i64 a]) ∧ Below w.heap.size w w' := by
  have hb : (a != 0) = true := by simpa using ha
  go_enter Try.func26, Try.ntmps26
  go_wp2_with (first | (go_at_call 49; refine (hwd _).mono ?_; rintro e w1 ⟨rfl, hB1⟩))
  go_ret2
  exact ⟨rfl, hB1⟩

set_option maxRecDepth 100000 in
set_option maxHeartbeats 2000000 in
theorem refBefore_ok (s sch : ByteArray) (i j : Int) (hsch : sch.size ≤ maxLen) (w : World) (h0 : (ckP s).1 = 0) (W : Wd) (hW : toLoop sch (beginW (thLoop s 0 0 [])) 0 = some W) :
    Calls Try.prog 26 #[.string s, .string sch, .int .i64 i, .int .i64 j] w fun e w' => e = .returned (.tuple #[.bool (befW W i j).1, .int .i64 (befW W i j).2]) ∧ Below w.heap.size w w' := by
  have I0 := begin_inv s h0
  have hwd := fun w => world_ok s sch w h0 (ckP_zero s h0).1 hsch I0 W hW
  have hLO := toLoop_logOk sch _ 0 _ W rfl I0 (begin_logOk _) hW
  clear h0 hW I0
  have hbadc : ∀ (hb : i < 0 ∨ j < 0 ∨ (W.log.length : Int) ≤ i ∨ (W.log.length : Int) ≤ j), befW W i j = (false, 6) := fun hb => by rw [befW, if_pos hb]
  have hgoodc : ∀ (hb : ¬ (i < 0 ∨ j < 0 ∨ (W.log.length : Int) ≤ i ∨ (W.log.length : Int) ≤ j)), befW W i j = ((aheadR W.log j.toNat)[i.toNat]?.getD false, 0) := fun hb => by rw [befW, if_neg hb]
  generalize befW W i j = r at *
  by_cases h1 : i < 0
  · have HR : Hid (r = (false, 6)) := hbadc (.inl h1)
    clear hbadc hgoodc
    go_enter Try.func26, Try.ntmps26
    go_upto_region 4 with (first | (go_at_call 49; refine (hwd _).mono ?_; rintro e w1 ⟨p, rfl, hB1, hR1, I1⟩; clear hwd))
    obtain ⟨gP, cP, gB, cB, gL, cL, gH, cH, gS, cS, aG, cG, hWi⟩ := hR1.wIn I1.good.ok
    have fG := hWi.fG
    clear hWi
    go_wp2
    go_ret2
    exact ⟨by rw [HR.out]; rfl, hB1⟩
  by_cases h2 : j < 0
  · have HR : Hid (r = (false, 6)) := hbadc (.inr (.inl h2))
    clear hbadc hgoodc
    go_enter Try.func26, Try.ntmps26
    go_upto_region 4 with (first | (go_at_call 49; refine (hwd _).mono ?_; rintro e w1 ⟨p, rfl, hB1, hR1, I1⟩; clear hwd))
    obtain ⟨gP, cP, gB, cB, gL, cL, gH, cH, gS, cS, aG, cG, hWi⟩ := hR1.wIn I1.good.ok
    have fG := hWi.fG
    clear hWi
    go_wp2
    go_ret2
    exact ⟨by rw [HR.out]; rfl, hB1⟩
  by_cases h3 : (W.log.length : Int) ≤ i
  · have HR : Hid (r = (false, 6)) := hbadc (.inr (.inr (.inl h3)))
    clear hbadc hgoodc
    go_enter Try.func26, Try.ntmps26
    go_upto_region 4 with (first | (go_at_call 49; refine (hwd _).mono ?_; rintro e w1 ⟨p, rfl, hB1, hR1, I1⟩; clear hwd))
    obtain ⟨gP, cP, gB, cB, gL, cL, gH, cH, gS, cS, aG, cG, hWi⟩ := hR1.wIn I1.good.ok
    have fG := hWi.fG
    clear hWi
    go_wp2
    go_ret2
    exact ⟨by rw [HR.out]; rfl, hB1⟩
  by_cases h4 : (W.log.length : Int) ≤ j
  · have HR : Hid (r = (false, 6)) := hbadc (.inr (.inr (.inr h4)))
    clear hbadc hgoodc
    go_enter Try.func26, Try.ntmps26
    go_upto_region 4 with (first | (go_at_call 49; refine (hwd _).mono ?_; rintro e w1 ⟨p, rfl, hB1, hR1, I1⟩; clear hwd))
    obtain ⟨gP, cP, gB, cB, gL, cL, gH, cH, gS, cS, aG, cG, hWi⟩ := hR1.wIn I1.good.ok
    have fG := hWi.fG
    clear hWi
    go_wp2
    go_ret2
    exact ⟨by rw [HR.out]; rfl, hB1⟩
  · obtain ⟨a, rfl⟩ : ∃ a : Nat, i = a := ⟨i.toNat, by omega⟩
    obtain ⟨b, rfl⟩ : ∃ b : Nat, j = b := ⟨j.toNat, by omega⟩
    have HR : Hid (r = ((aheadR W.log b)[a]?.getD false, 0)) := by
      have h := hgoodc (by omega)
      rw [Int.toNat_natCast, Int.toNat_natCast] at h
      exact h
    clear hbadc hgoodc
    obtain ⟨x, hx⟩ := get_some (aheadR W.log b) a (by rw [aheadR_len]; omega)
    have HR2 : Hid (r = (x, 0)) := by rw [Hid, HR.out, hx]; rfl
    have HX : Hid ((aheadR W.log b)[a]? = some x) := hx
    clear HR hx
    have a0 : (0 : Int) ≤ (a : Int) := by omega
    have al : (a : Int) < (W.log.length : Int) := by omega
    have haln : a < W.log.length := by omega
    go_enter Try.func26, Try.ntmps26
    go_upto_region 4 with (first | (go_at_call 49; refine (hwd _).mono ?_; rintro e w1 ⟨p, rfl, hB1, hR1, I1⟩; clear hwd))
    obtain ⟨gP, cP, gB, cB, gL, cL, gH, cH, gS, cS, aG, cG, hWi⟩ := hR1.wIn I1.good.ok
    have fG := hWi.fG
    have hl60 := I1.small
    have hAh := ahead_any p b W w1 hWi I1.good.n5 hLO (by omega) hl60 _ rfl
    clear hWi
    go_wp2_with (first | (go_at_call 62; refine hAh.mono ?_; rintro e w2 ⟨g, rfl, hb2, ho2⟩; have cx : w2.cell? ⟨g, a, none⟩ = some (.bool x) := (by rw [ho2.cellAt a (by omega)]; simp [HX.out])))
    go_ret2
    exact ⟨by rw [HR2.out]; rfl, hB1.trans (hb2.mono hB1.size)⟩

theorem refBefore_any (s sch : ByteArray) (i j : Int) (hsch : sch.size ≤ maxLen) (w : World) :
    Calls Try.prog 26 #[.string s, .string sch, .int .i64 i, .int .i64 j] w fun e w' => e = .returned (.tuple #[.bool (befV s sch i j).1, .int .i64 (befV s sch i j).2]) ∧ Below w.heap.size w w' := by
  unfold befV
  by_cases h : (ckP s).1 ≠ 0
  · rw [if_pos h]
    exact refBefore_bad s sch i j _ h w (fun w => world_err s sch w h)
  · rw [if_neg h]
    have h0 : (ckP s).1 = 0 := by omega
    cases hW : toLoop sch (beginW (thLoop s 0 0 [])) 0 with
    | none => exact refBefore_bad s sch i j 5 (by decide) w (fun w => world_none s sch w h0 (ckP_zero s h0).1 hsch (begin_inv s h0) hW)
    | some W => exact refBefore_ok s sch i j hsch w h0 W hW
end Go.Proofs.Ytdfndcbakcmgiaa
