import Derived.Test.YtfdbnilopfnifaaR1
import Derived.Test.YtfdbnilopfnifaaP2
import Derived.Test.YtfdbnilopfnifaaD9
import Derived.Laws.OwnMore
namespace Go.Proofs.Ytfdbnilopfnifaa
open Go.RowKit

/-- One mark: i, if it leads to j or to a marked event between. -/
def markL (log : List Ev) (j i k : Nat) (m : List Bool) : List Bool :=
  if k ≤ j then markL log j i (k + 1) (if (k = j ∨ m[k]?.getD false = true) ∧ (log[i]?.bind fun a => log[k]?.map fun b => strE a b).getD false = true then m.set i true else m) else m
termination_by j + 1 - k
def marksL (log : List Ev) (j : Nat) : Nat → List Bool → List Bool
  | 0, m => m
  | c + 1, m => marksL log j c (markL log j c (c + 1) m)
/-- Which events must come ahead of j. -/
def aheadR (log : List Ev) (j : Nat) : List Bool := marksL log j j (List.replicate log.length false)

def mkB (l c : Value) : Sem Value := Instr.makeSlice 82 l c
theorem mkB_fold (l c : Value) : Instr.makeSlice 82 l c = mkB l c := rfl
attribute [local go_sem ↓] mkB_fold
theorem madeB (n : Nat) : (madeCells (Value.bool false).cells (n * 1)).toList = (List.replicate n false).map Value.bool := by
  apply List.ext_getElem?
  intro i
  by_cases h : i < n
  · simp [madeCells, Value.cells, h]
    rw [Nat.mod_one]; rfl
  · simp [madeCells, Value.cells, h]

set_option maxRecDepth 100000 in
set_option maxHeartbeats 4000000 in
theorem ahead_any (p j : Nat) (W : Wd) (w : World) {gP cP gB cB gL cL gH cH gS cS : Nat} {aG : Option Addr} {cG : Nat} (h : WIn w p W gP cP gB cB gL cL gH cH gS cS aG cG) (hn5 : W.prog.length ≤ 5) (hL : LogOk W) (hj : j < W.log.length) (hl : W.log.length ≤ 60) (y : Int) (hy : y = j) :
    Calls Try.prog 62 #[.pointer (some ⟨p, 0, none⟩), .int .i64 y] w fun e w' => ∃ g, e = .returned (.slice (some ⟨g, 0, none⟩) W.log.length W.log.length) ∧ Below w.heap.size w w' ∧ w'.ownsRow w.heap.size 4 1 (.slice (some ⟨g, 0, none⟩) W.log.length W.log.length) W.log.length ((aheadR W.log j).map Value.bool) := by
  subst hy
  obtain ⟨i0, hi0, hz0, hz1, hz2⟩ := info_split infoBool
  obtain ⟨wm, hmk, hom, hgm⟩ := run_make_full (P := Try.prog) w w.heap.size 82 4 i0 (.bool false) 1 Try.underlying82 hi0 hz0 hz1 .i64 .i64 W.log.length (by rw [hz2]; omega) (by unfold maxLen; omega) (Nat.le_refl _)
  rw [mkB_fold] at hmk
  rw [madeB] at hom
  have hBm : Below w.heap.size w wm := below_grown (Below.refl _ _) (Nat.le_refl _) hgm (fun k hk => by cases hk)
  have fG := h.fG
  generalize hres : aheadR W.log j = res
  have HR : Hid (marksL W.log j j (List.replicate W.log.length false) = res) := hres
  clear hres hi0 hz0 hz1 hz2 hgm
  go_enter Try.func62, Try.ntmps62
  go_wp2
  go_loopw [6] (fun x wr => ∃ (c : Nat) (m : List Bool), c ≤ j ∧ m.length = W.log.length ∧ x = .int .i64 ((c : Int) - 1) ∧ Hid (marksL W.log j c m = res) ∧ wr.ownsRow w.heap.size 4 1 (.slice (some ⟨w.heap.size, 0, none⟩) W.log.length W.log.length) W.log.length (m.map Value.bool) ∧ Below w.heap.size w wr) (fun x _ => (intOf x + 1).toNat)
  case atStart => exact ⟨j, _, Nat.le_refl _, by simp, rfl, HR, hom, hBm⟩
  case round =>
    obtain ⟨c, m, hcj, hml, rfl, HE, hown, hBr⟩ := hrel
    clear HR hom hBm hmk
    cases c with
    | zero =>
      have hres : res = m := by have h := HE.out; rw [marksL] at h; exact h.symm
      subst hres
      go_wp2
      go_ret
      exact ⟨w.heap.size, rfl, hBr, hown⟩
    | succ i =>
      have HE1 : Hid (marksL W.log j i (markL W.log j i (i + 1) m) = res) := by have h := HE.out; rw [marksL] at h; exact h
      have hz : (((i + 1 : Nat) : Int) - 1) = (i : Int) := by omega
      rw [hz]
      clear HE
      have hil : i < W.log.length := by omega
      go_wp2
      go_loopw [7] (fun x wx => ∃ (k : Nat) (m : List Bool), i + 1 ≤ k ∧ k ≤ j + 1 ∧ m.length = W.log.length ∧ x = .int .i64 (k : Int) ∧ Hid (marksL W.log j i (markL W.log j i k m) = res) ∧ wx.ownsRow w.heap.size 4 1 (.slice (some ⟨w.heap.size, 0, none⟩) W.log.length W.log.length) W.log.length (m.map Value.bool) ∧ Below w.heap.size w wx) (fun x _ => (j + 1) - (intOf x).toNat)
      case atStart => exact ⟨i + 1, m, Nat.le_refl _, by omega, hml, rfl, HE1, hown, hBr⟩
      case round =>
        obtain ⟨k, m, hik, hkj, hml, rfl, HE, hown, hBr⟩ := hrel
        clear HE1
        have hWr := h.below hBr
        have cellM : ∀ (x : Nat) (b : Bool), m[x]? = some b → wr.cell? ⟨w.heap.size, x, none⟩ = some (.bool b) := fun x b hx => by
          have hxl : x < W.log.length := by rw [← hml]; exact (List.getElem?_eq_some_iff.1 hx).1
          rw [hown.cellAt x (by omega)]
          simp [hx]
        by_cases hk : k ≤ j
        · have hkl : k < W.log.length := by omega
          obtain ⟨a, ha⟩ := get_some W.log i hil
          obtain ⟨b, hb⟩ := get_some W.log k hkl
          have oa := hL a (List.mem_of_getElem? ha)
          have ob := hL b (List.mem_of_getElem? hb)
          have hS := straight_any p i k W wr hWr hn5 a b ha hb oa ob _ _ rfl rfl
          have hlead : (W.log[i]?.bind fun a => W.log[k]?.map fun b => strE a b).getD false = strE a b := by rw [ha, hb]; rfl
          obtain ⟨mk, hmk⟩ := get_some m k (by rw [hml]; exact hkl)
          obtain ⟨mi, hmi⟩ := get_some m i (by rw [hml]; exact hil)
          have ck := cellM k mk hmk
          have ci := cellM i mi hmi
          have zi : wr.frozen? ⟨w.heap.size, i, none⟩ = false := hown.frozenAt i
          have HE2 : Hid (marksL W.log j i (markL W.log j i (k + 1) (if (k = j ∨ mk = true) ∧ strE a b = true then m.set i true else m)) = res) := by
            have hh := HE.out
            rw [markL, if_pos hk, hlead, hmk, Option.getD_some] at hh
            exact hh
          have hst := (hown.stored i (.bool true)).1
          rw [← List.map_set] at hst
          have hlset : (m.set i true).length = W.log.length := by simpa using hml
          have i0 : (0 : Int) ≤ (i : Int) := by omega
          have il : (i : Int) < (W.log.length : Int) := by omega
          have k0 : (0 : Int) ≤ (k : Int) := by omega
          have kl : (k : Int) < (W.log.length : Int) := by omega
          have kj : (k : Int) ≤ (j : Int) := by omega
          clear HE hlead hmk hmi ha hb oa ob cellM hWr
          generalize strE a b = sb at *
          by_cases hkj2 : k = j
          · subst hkj2
            cases sb with
            | true =>
              rw [if_pos ⟨.inl rfl, rfl⟩] at HE2
              go_wp2_with (first | (go_at_call 92; refine hS.mono ?_; rintro e w2 ⟨rfl, hb2⟩; have c2 := cell_later hb2 ci; have z2 := frozen_later hb2 ci zi))
              go_roundw
              case rel =>
                have ho2 := hown.kept (grownBy_of_below hb2) (.inr (by simp [Value.ownBlock]))
                have hs2 := (ho2.stored i (.bool true)).1
                rw [← List.map_set] at hs2
                exact ⟨k + 1, m.set i true, by omega, by omega, hlset, rfl, HE2, hs2, (hBr.trans (hb2.mono hBr.size)).setCell (Nat.le_refl _) _⟩
              case measure => (simp [intOf] <;> omega)
            | false =>
              rw [if_neg (fun hh => by simp at hh)] at HE2
              go_wp2_with (first | (go_at_call 92; refine hS.mono ?_; rintro e w2 ⟨rfl, hb2⟩))
              go_roundw
              case rel =>
                have ho2 := hown.kept (grownBy_of_below hb2) (.inr (by simp [Value.ownBlock]))
                exact ⟨k + 1, m, by omega, by omega, hml, rfl, HE2, ho2, hBr.trans (hb2.mono hBr.size)⟩
              case measure => (simp [intOf] <;> omega)
          · have hb0 : ((k : Int) == (j : Int)) = false := beq_false_of_ne (by omega)
            cases mk with
            | true =>
              cases sb with
              | true =>
                rw [if_pos ⟨.inr rfl, rfl⟩] at HE2
                go_wp2_with (first | (go_at_call 92; refine hS.mono ?_; rintro e w2 ⟨rfl, hb2⟩; have c2 := cell_later hb2 ci; have z2 := frozen_later hb2 ci zi))
                go_roundw
                case rel =>
                  have ho2 := hown.kept (grownBy_of_below hb2) (.inr (by simp [Value.ownBlock]))
                  have hs2 := (ho2.stored i (.bool true)).1
                  rw [← List.map_set] at hs2
                  exact ⟨k + 1, m.set i true, by omega, by omega, hlset, rfl, HE2, hs2, (hBr.trans (hb2.mono hBr.size)).setCell (Nat.le_refl _) _⟩
                case measure => (simp [intOf] <;> omega)
              | false =>
                rw [if_neg (fun hh => by simp at hh)] at HE2
                go_wp2_with (first | (go_at_call 92; refine hS.mono ?_; rintro e w2 ⟨rfl, hb2⟩))
                go_roundw
                case rel =>
                  have ho2 := hown.kept (grownBy_of_below hb2) (.inr (by simp [Value.ownBlock]))
                  exact ⟨k + 1, m, by omega, by omega, hml, rfl, HE2, ho2, hBr.trans (hb2.mono hBr.size)⟩
                case measure => (simp [intOf] <;> omega)
            | false =>
              rw [if_neg (fun hh => hh.1.elim hkj2 (fun h1 => Bool.noConfusion h1))] at HE2
              go_wp2
              go_roundw
              case rel => exact ⟨k + 1, m, by omega, by omega, hml, rfl, HE2, hown, hBr⟩
              case measure => (simp [intOf] <;> omega)
        · have hke : k = j + 1 := by omega
          have kj : ¬ (k : Int) ≤ (j : Int) := by omega
          have HE3 : Hid (marksL W.log j i m = res) := by
            have hh := HE.out
            rw [markL, if_neg hk] at hh
            exact hh
          clear HE
          go_wp2
          go_roundw
          case rel => exact ⟨i, m, by omega, hml, rfl, HE3, hown, hBr⟩
          case measure => (simp [intOf] <;> omega)
end Go.Proofs.Ytfdbnilopfnifaa
namespace Go.Proofs.Ytfdbnilopfnifaa
open Go.RowKit

theorem ckExtra_neg (l : List ByteArray) : ∀ (n t : Nat), l.length - t = n → ckExtra l t = -1 → ∀ j (h : j < l.length), t ≤ j → j < 5 ∧ (stLoop l[j] 0 []).length ≤ 12 := by
  intro n
  induction n with
  | zero => intro t hn _ j h hj; omega
  | succ n ih =>
    intro t hn hk j h hj
    rw [ckExtra, dif_pos (by omega)] at hk
    split at hk
    · omega
    · rename_i hc
      by_cases e : j = t
      · subst e; omega
      · exact ih (t + 1) (by omega) hk j h (by omega)

theorem ckStray_neg (s : ByteArray) (m : Nat) : ∀ (n i : Nat), s.size - i = n → ckStray s m i = -1 → ∀ j, i ≤ j → j < s.size → (byteI s (j - 1) = 60 ∨ byteI s (j - 1) = 62) → (byteI s j - 48) % 256 < m := by
  intro n
  induction n with
  | zero => intro i hn _ j h1 h2; omega
  | succ n ih =>
    intro i hn hk j h1 h2 hc
    rw [ckStray, if_pos (by omega)] at hk
    split at hk
    · omega
    · rename_i hc'
      by_cases e : j = i
      · subst e
        have := fun h => hc' ⟨hc, h⟩
        omega
      · exact ih (i + 1) (by omega) hk j (by omega) h2 hc

/-- An instruction of the text. -/
def DP (s d : ByteArray) : Prop := ∃ k, k < s.size ∧ byteI s k ≠ 59 ∧ (readStep s k).2.2 = true ∧ d = s.extract k (readStep s k).2.1

theorem dp_main (s : ByteArray) : ∀ (n k frm : Nat) (dn : List ByteArray) (pre : List ByteArray) (L : List (List Stp)), s.size - k = n → frm ≤ k → k ≤ s.size →
    (∀ e, k ≤ e → e ≤ s.size → stLoop (s.extract frm e) 0 [] = stLoop (s.extract frm e) (k - frm) pre) →
    rtLoop s k (parse dn) (pre.map stpOf) = .inl L → (∀ th ∈ dn, ∀ d ∈ stLoop th 0 [], DP s d) → (∀ d ∈ pre, DP s d) → ∀ th ∈ thLoop s frm k dn, ∀ d ∈ stLoop th 0 [], DP s d := by
  intro n
  induction n using Nat.strongRecOn with
  | ind n ih =>
    intro k frm dn pre L hn hf hk hpre hL hdn hpr
    by_cases hlt : k < s.size
    · by_cases h59 : byteI s k = 59
      · have hsp := hpre k (Nat.le_refl _) hk
        rw [stLoop_end _ (k - frm) pre (by rw [ByteArray.size_extract]; omega)] at hsp
        have hr : rtLoop s k (parse dn) (pre.map stpOf) = rtLoop s (k + 1) (parse (dn ++ [s.extract frm k])) (([] : List ByteArray).map stpOf) := by
          rw [rtLoop, if_pos hlt, if_pos h59]
          simp [parse, hsp]
        rw [hr] at hL
        rw [thLoop, if_pos hlt, if_pos h59]
        refine ih (s.size - (k + 1)) (by omega) (k + 1) (k + 1) _ [] L rfl (by omega) (by omega) (fun e _ _ => by simp) hL ?_ (by simp)
        intro th hth
        rcases List.mem_append.1 hth with hth | hth
        · exact hdn th hth
        · simp at hth; subst hth; rw [hsp]; exact hpr
      · cases hok : (readStep s k).2.2 with
        | false =>
          rw [rtLoop, if_pos hlt, if_neg h59, dif_neg (by simp [hok])] at hL
          cases hL
        | true =>
          have G := readStep_good s k hlt h59 hok
          have hr : rtLoop s k (parse dn) (pre.map stpOf) = rtLoop s (readStep s k).2.1 (parse dn) ((pre ++ [s.extract k (readStep s k).2.1]).map stpOf) := by
            rw [rtLoop, if_pos hlt, if_neg h59, dif_pos hok]
            simp [← G.stp]
          rw [hr] at hL
          have hd : DP s (s.extract k (readStep s k).2.1) := ⟨k, hlt, h59, hok, rfl⟩
          generalize (readStep s k).2.1 = nx at G hL hd
          have hw := wid_range (byteI s k)
          have hnx := G.nxt
          have hle := G.le
          rw [thLoop_skip s frm dn (nx - k) k nx (by omega) hle G.nosemi]
          refine ih (s.size - nx) (by omega) nx frm dn _ L rfl (by omega) hle ?_ hL hdn ?_
          · intro e he1 he2
            rw [hpre e (by omega) he2, stLoop, dif_pos (by rw [ByteArray.size_extract]; omega)]
            have hend : stEnd (s.extract frm e) (k - frm) = nx - frm := by
              have hby : byteI (s.extract frm e) (k - frm) = byteI s k := by
                have e0 : frm + (k - frm) = k := by omega
                rw [byteI_extract s frm e _ he2, if_pos (by omega), e0]
              rw [stEnd, hby, ByteArray.size_extract, if_neg (by omega)]
              omega
            rw [hend, extract_extract s frm e _ _ (by omega)]
            have e1 : frm + (k - frm) = k := by omega
            have e2 : frm + (nx - frm) = nx := by omega
            rw [e1, e2]
          · intro d hdd
            rcases List.mem_append.1 hdd with h | h
            · exact hpr d h
            · simp at h; subst h; exact hd
    · have hsp := hpre s.size (by omega) (Nat.le_refl _)
      rw [stLoop_end _ (k - frm) pre (by rw [ByteArray.size_extract]; omega)] at hsp
      rw [thLoop, if_neg hlt]
      intro th hth
      rcases List.mem_append.1 hth with hth | hth
      · exact hdn th hth
      · simp at hth; subst hth; rw [hsp]; exact hpr

/-- What the bytes of a step that could be read are. -/
theorem readStep_bytes (s : ByteArray) (k : Nat) (h : (readStep s k).2.2 = true) :
    byteI s k = 46 ∨ (97 ≤ byteI s k ∧ byteI s k ≤ 102) ∨ (65 ≤ byteI s k ∧ byteI s k ≤ 70) ∨ ((byteI s k = 33 ∨ byteI s k = 126) ∧ 117 ≤ byteI s (k + 1) ∧ byteI s (k + 1) ≤ 122) ∨
    (byteI s k = 63 ∧ 117 ≤ byteI s (k + 1) ∧ byteI s (k + 1) ≤ 122 ∧ 49 ≤ byteI s (k + 2) ∧ byteI s (k + 2) ≤ 57) ∨ ((byteI s k = 60 ∨ byteI s k = 62) ∧ 48 ≤ byteI s (k + 1) ∧ byteI s (k + 1) ≤ 57) := by
  unfold readStep at h
  split at h
  · exact .inl (by assumption)
  split at h
  · exact .inr (.inl (by assumption))
  split at h
  · exact .inr (.inr (.inl (by assumption)))
  split at h
  · rename_i c; have := readNamed_good h; exact .inr (.inr (.inr (.inl ⟨.inl c, this.2⟩)))
  split at h
  · rename_i c; have := readNamed_good h; exact .inr (.inr (.inr (.inl ⟨.inr c, this.2⟩)))
  split at h
  · rename_i c
    unfold readSkip at h
    split at h
    · simp at h
    split at h
    · simp at h
    · have e : k + 1 + 1 = k + 2 := by omega
      rename_i d1 d2
      rw [e] at d2
      exact .inr (.inr (.inr (.inr (.inl ⟨c, by omega, by omega, by omega, by omega⟩))))
  split at h
  · rename_i c; have := readNamed_good h; exact .inr (.inr (.inr (.inr (.inr ⟨.inr c, this.2⟩))))
  split at h
  · rename_i c; have := readNamed_good h; exact .inr (.inr (.inr (.inr (.inr ⟨.inl c, this.2⟩))))
  · simp at h

theorem dp_ok (s d : ByteArray) (n : Nat) (h : DP s d) (hst : ∀ j, 1 ≤ j → j < s.size → (byteI s (j - 1) = 60 ∨ byteI s (j - 1) = 62) → (byteI s j - 48) % 256 < n) : DOk n d := by
  obtain ⟨k, hk, h59, hok, rfl⟩ := h
  have G := readStep_good s k hk h59 hok
  have hb := readStep_bytes s k hok
  have hnx := G.nxt
  have hle := G.le
  generalize (readStep s k).2.1 = nx at *
  have hw := wid_range (byteI s k)
  have e0 : byteI (s.extract k nx) 0 = byteI s k := stpOf_extract0 s k nx hle (by omega)
  have e1 : 2 ≤ wid (byteI s k) → byteI (s.extract k nx) 1 = byteI s (k + 1) := fun h => stpOf_extract s k nx hle 1 (by omega)
  have e2 : 3 ≤ wid (byteI s k) → byteI (s.extract k nx) 2 = byteI s (k + 2) := fun h => stpOf_extract s k nx hle 2 (by omega)
  refine ⟨?_, ?_⟩
  · rw [e0, ByteArray.size_extract]; omega
  · rw [e0]
    rcases hb with h | h | h | ⟨h, h1, h2⟩ | ⟨h, h1, h2, h3, h4⟩ | ⟨h, h1, h2⟩
    · exact .inl h
    · exact .inr (.inl h)
    · exact .inr (.inr (.inl h))
    · have hw2 : wid (byteI s k) = 2 := wid_two (by omega)
      rw [e1 (by omega)]
      exact .inr (.inr (.inr (.inl ⟨h, h1, h2⟩)))
    · have hw3 : wid (byteI s k) = 3 := by rw [h]; rfl
      rw [e1 (by omega), e2 (by omega)]
      exact .inr (.inr (.inr (.inr (.inl ⟨h, h1, h2, h3, h4⟩))))
    · have hw2 : wid (byteI s k) = 2 := wid_two (by omega)
      rw [e1 (by omega)]
      have hs1 : k + 1 < s.size := by omega
      have := hst (k + 1) (by omega) hs1 (by rw [Nat.add_sub_cancel]; exact h)
      exact .inr (.inr (.inr (.inr (.inr ⟨h, h1, by omega⟩))))

theorem ckP_zero (s : ByteArray) (h : (ckP s).1 = 0) : s.size ≤ 160 ∧ badLoop s 0 0 = -1 ∧ ckExtra (thLoop s 0 0 []) 0 = -1 ∧ ckStray s (thLoop s 0 0 []).length 1 = -1 := by
  unfold ckP at h
  split at h
  · simp at h
  rename_i h1
  split at h
  · simp at h
  rename_i h2
  unfold ckEnd at h
  split at h
  · simp at h
  rename_i h3
  split at h
  · simp at h
  rename_i h4
  refine ⟨by omega, ?_, by omega, by omega⟩
  have hm := rt_main s _ 0 0 [] [] rfl (Nat.le_refl _) (Nat.zero_le _) (fun e _ _ => by simp)
  simp only [parse, List.map_nil] at hm
  cases hr : rtLoop s 0 [] [] with
  | inr p => rw [hr] at hm; simp only at hm; omega
  | inl L => rw [hr] at hm; exact hm.1

theorem thLoop_pos (s : ByteArray) : ∀ (n frm k : Nat) (dn : List ByteArray), s.size - k = n → 0 < (thLoop s frm k dn).length := by
  intro n
  induction n with
  | zero => intro frm k dn h; rw [thLoop, if_neg (by omega)]; simp
  | succ n ih =>
    intro frm k dn h
    rw [thLoop, if_pos (by omega)]
    split
    · exact ih _ _ _ (by omega)
    · exact ih _ _ _ (by omega)

/-- A text that Check lets by begins well. -/
theorem begin_inv (s : ByteArray) (h : (ckP s).1 = 0) : (beginW (thLoop s 0 0 [])).Inv := by
  obtain ⟨h160, hbad, hex, hst⟩ := ckP_zero s h
  have hext := ckExtra_neg (thLoop s 0 0 []) _ 0 rfl hex
  have hstr := ckStray_neg s _ _ 1 rfl hst
  have hpos := thLoop_pos s _ 0 0 [] rfl
  have hm := rt_main s _ 0 0 [] [] rfl (Nat.le_refl _) (Nat.zero_le _) (fun e _ _ => by simp)
  have hdp : ∀ th ∈ thLoop s 0 0 [], ∀ d ∈ stLoop th 0 [], DP s d := by
    simp only [parse, List.map_nil] at hm
    cases hr : rtLoop s 0 [] [] with
    | inr p => rw [hr] at hm; simp only at hm; omega
    | inl L => exact dp_main s _ 0 0 [] [] L rfl (Nat.le_refl _) (Nat.zero_le _) (fun e _ _ => by simp) (by simpa [parse] using hr) (by simp) (by simp)
  clear hm
  generalize thLoop s 0 0 [] = ths at *
  have hprog : (beginW ths).prog = ths.map fun th => stLoop th 0 [] := by simp [beginW, madeW]
  have hlen : (beginW ths).prog.length = ths.length := by rw [hprog]; simp
  refine ⟨⟨⟨by omega, ?_, ?_, by simp [beginW], by simp [beginW]⟩, ?_, ?_, ?_, ?_, ?_⟩, by simp [beginW, madeW]⟩
  · rw [hlen]; simp [beginW, madeW]
  · rw [hlen]; simp [beginW, madeW]
  · rw [hlen]
    have := hext (ths.length - 1) (by omega) (Nat.zero_le _)
    omega
  · intro t l j d hl hd
    rw [hlen]
    rw [hprog, List.getElem?_map] at hl
    cases hth : ths[t]? with
    | none => rw [hth] at hl; simp at hl
    | some th =>
      rw [hth] at hl
      simp at hl
      subst hl
      exact dp_ok s d _ (hdp th (List.mem_of_getElem? hth) d (List.mem_of_getElem? hd)) hstr
  · intro t l n _ hn
    have : (beginW ths).place = List.replicate ths.length 0 := by simp [beginW, madeW]
    rw [this, List.getElem?_replicate] at hn
    split at hn
    · simp at hn; omega
    · simp at hn
  · intro t l hl
    rw [hprog, List.getElem?_map] at hl
    cases hth : ths[t]? with
    | none => rw [hth] at hl; simp at hl
    | some th =>
      rw [hth] at hl
      simp at hl
      subst hl
      obtain ⟨ht, e⟩ := List.getElem?_eq_some_iff.1 hth
      have := (hext t ht (Nat.zero_le _)).2
      rw [e] at this
      exact this
  · intro k u hu
    have : (beginW ths).has = List.replicate 6 none := rfl
    rw [this, List.getElem?_replicate] at hu
    split at hu
    · simp at hu
    · simp at hu
end Go.Proofs.Ytfdbnilopfnifaa
