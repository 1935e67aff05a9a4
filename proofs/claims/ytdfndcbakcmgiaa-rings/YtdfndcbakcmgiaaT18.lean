import Derived.Test.YtdfndcbakcmgiaaT16
import Derived.Laws.CopyOwn
namespace Go.Proofs.Ytdfndcbakcmgiaa
open Go.RowKit

theorem close_bad (s sch : ByteArray) (a : Option Addr) (n c : Nat) (x : Int) (hx : x ≠ 0) (w : World) (hwd : ∀ w, Calls Try.prog 57 #[.string s, .string sch] w fun e w' => e = .returned (.tuple #[nilTr, .int .i64 x]) ∧ Below w.heap.size w w') :
    Calls Try.prog 28 #[.string s, .string sch, .slice a n c] w fun e w' => e = .returned (.tuple #[.slice none 0 0, .int .i64 x]) ∧ Below w.heap.size w w' := by
  have hb : (x != 0) = true := by simpa using hx
  go_enter Try.func28, Try.ntmps28
  go_wp2_with (first | (go_at_call 57; refine (hwd _).mono ?_; rintro e w1 ⟨he, hB1⟩; rw [nilTr] at he; subst he))
  go_ret2
  exact ⟨rfl, hB1.alloc hB1.size _⟩

set_option maxRecDepth 100000 in
set_option maxHeartbeats 4000000 in
theorem close_ok (s sch : ByteArray) (a : Option Addr) (ce : Nat) (ev : List Int) (hll : ev.length ≤ maxLen) (hsch : sch.size ≤ maxLen) (w : World) (hA : IntsAt w a ev) (h0 : (ckP s).1 = 0) (W : Wd) (hW : toLoop sch (beginW (thLoop s 0 0 [])) 0 = some W) :
    Calls Try.prog 28 #[.string s, .string sch, .slice a ev.length ce] w fun e w' => Below w.heap.size w w' ∧
      ((¬ inR W.log.length ev ∧ e = .returned (.tuple #[.slice none 0 0, .int .i64 6])) ∨
       (inR W.log.length ev ∧ ∃ g' c' m, MidS W.log (markE 60 ev) m ∧ ClosedS W.log m ∧ m.length = 60 ∧ e = .returned (.tuple #[.slice (some ⟨g', 0, none⟩) (listB m W.log.length).length c', .int .i64 0]) ∧ w'.ownsRow w.heap.size 3 1 (.slice (some ⟨g', 0, none⟩) (listB m W.log.length).length c') (listB m W.log.length).length (intV (listB m W.log.length)))) := by
  have I0 := begin_inv s h0
  have hwd := fun w => traceOf_ok s sch hsch w h0 W hW
  have hLO := toLoop_logOk sch _ 0 _ W rfl I0 (begin_logOk _) hW
  have hsm := (toLoop_inv sch _ 0 _ W rfl I0 hW).1.small
  have hH := fun c g Wn (x : Int) w => Has_any (some ⟨g, 0, none⟩) c W.log.length Wn w x
  have hml := hll
  unfold maxLen at hml
  clear h0 hW I0
  generalize wantsE W W.prog.length = wl at *
  go_enter Try.func28, Try.ntmps28
  go_upto_region 4 with (first | (go_at_call 57; refine (hwd _).mono ?_; rintro e w1 ⟨g, c, g', c', rfl, hm, hm', hB1, hg, hg'⟩))
  have T0 : TrIn w1 (w1.alloc (.cells #[.slice (some ⟨g, 0, none⟩) W.log.length c, .slice (some ⟨g', 0, none⟩) wl.length c'] 104)) g W.log.length c (.slice (some ⟨g', 0, none⟩) wl.length c') := TrIn.new _ _ _ _ _
  have hBX : Below w.heap.size w (w1.alloc (.cells #[.slice (some ⟨g, 0, none⟩) W.log.length c, .slice (some ⟨g', 0, none⟩) wl.length c'] 104)) := hB1.alloc hB1.size _
  have hmX := hm.below ((Below.refl _ _).alloc (Nat.le_refl _) (.cells #[.slice (some ⟨g, 0, none⟩) W.log.length c, .slice (some ⟨g', 0, none⟩) wl.length c'] 104))
  generalize hWn : Value.slice (some ⟨g', 0, none⟩) wl.length c' = Wn at *
  clear hWn hm hm' hwd
  generalize w1.alloc (.cells #[.slice (some ⟨g, 0, none⟩) W.log.length c, Wn] 104) = X at *
  go_wp2
  go_loopw [10] (fun x wr => ∃ k : Nat, k ≤ ev.length ∧ x = .int .i64 (k : Int) ∧ inR W.log.length (ev.take k) ∧ TrIn w1 wr g W.log.length c Wn ∧ Below X.heap.size X wr) (fun x _ => ev.length - (intOf x).toNat)
  case atStart => exact ⟨0, Nat.zero_le _, rfl, by simp [inR], T0, Below.refl _ _⟩
  case round =>
    obtain ⟨k, hk, rfl, hin, T, hBr⟩ := hrel
    have HIN : Hid (inR W.log.length (ev.take k)) := hin
    have hBw := hBX.trans (hBr.mono hBX.size)
    have e0 := T.c0
    have e1 := T.c1
    clear T0 hin
    by_cases hke : k < ev.length
    · obtain ⟨x, hx⟩ := get_some ev k hke
      obtain ⟨ga, oa, ha, ca⟩ := hA k x hx
      subst ha
      have ca' := cell_later hBw ca
      have k0 : (0 : Int) ≤ (k : Int) := by omega
      have kl : (k : Int) < (ev.length : Int) := by omega
      have hHx := fun w => hH c g Wn x w
      have htk : ev.take (k + 1) = ev.take k ++ [x] := by rw [List.take_add_one, hx]; rfl
      by_cases hxin : 0 ≤ x ∧ x < W.log.length
      · rw [decide_eq_true hxin] at hHx
        have HIN2 : Hid (inR W.log.length (ev.take (k + 1))) := by
          rw [Hid, htk]
          intro y hy
          rcases List.mem_append.1 hy with h | h
          · exact HIN.out y h
          · simp only [List.mem_singleton] at h; subst h; exact hxin
        clear hx htk hH
        go_upto_region 7 with fail
        go_region_held3 (fun w' => w'.cell? ⟨w1.heap.size, 0, none⟩ = some (.slice (some ⟨g, 0, none⟩) W.log.length c) ∧ w'.cell? ⟨w1.heap.size, 1, none⟩ = some Wn ∧ w'.cell? ⟨ga, oa + k, none⟩ = some (.int .i64 x))
          (first | (refine ⟨cell_later ?_ e0, cell_later ?_ e1, cell_later ?_ ca'⟩ <;> first | exact Below.refl _ _ | exact (Below.refl _ _).drew | exact hx1 | exact hx1.drew) | go_keep)
          (first | (go_at_call 60; refine (hHx _).mono ?_; rintro e w2 ⟨rfl, hbb⟩; have hx1 : Below wr.heap.size wr w2 := (by first | exact hbb | exact below_of_drew hbb)))
        go_wp2
        go_roundw
        case rel => exact ⟨k + 1, by omega, rfl, HIN2.out, T.below hx1, hBr.trans (hx1.mono hBr.size)⟩
        case measure => (simp [intOf] <;> omega)
      · rw [decide_eq_false hxin] at hHx
        have HNO : Hid (¬ inR W.log.length ev) := fun h => hxin (h x (List.mem_of_getElem? hx))
        clear hx htk hH
        go_upto_region 7 with fail
        go_region_held3 (fun w' => w'.cell? ⟨w1.heap.size, 0, none⟩ = some (.slice (some ⟨g, 0, none⟩) W.log.length c) ∧ w'.cell? ⟨w1.heap.size, 1, none⟩ = some Wn ∧ w'.cell? ⟨ga, oa + k, none⟩ = some (.int .i64 x))
          (first | (refine ⟨cell_later ?_ e0, cell_later ?_ e1, cell_later ?_ ca'⟩ <;> first | exact Below.refl _ _ | exact (Below.refl _ _).drew | exact hx1 | exact hx1.drew) | go_keep)
          (first | (go_at_call 60; refine (hHx _).mono ?_; rintro e w2 ⟨rfl, hbb⟩; have hx1 : Below wr.heap.size wr w2 := (by first | exact hbb | exact below_of_drew hbb)))
        go_wp2
        go_ret2
        exact ⟨hBw.trans (hx1.mono hBw.size), .inl ⟨HNO.out, rfl⟩⟩
    · have hke' : k = ev.length := by omega
      have kl : ¬ (k : Int) < (ev.length : Int) := by omega
      subst hke'
      have HIN2 : Hid (inR W.log.length ev) := by have h := HIN.out; rw [List.take_length] at h; exact h
      have hCl := CloseT_any g c Wn W.log hLO a ce ev hll HIN2.out wr (hmX.below hBr) (hA.below hBw) hsm
      clear hH hA
      go_wp2_with (first
        | (go_at_call 63; refine hCl.mono ?_; rintro e w2 ⟨g2, c2, m, rfl, hb2, ho2, hmn, hMS, hCS⟩; have HMC : Hid (MidS W.log (markE 60 ev) m ∧ ClosedS W.log m) := ⟨hMS, hCS⟩; clear hMS hCS))
      go_ret2
      exact ⟨hBw.trans (hb2.mono hBw.size), .inr ⟨HIN2.out, g2, c2, m, HMC.out.1, HMC.out.2, hmn, rfl, ownsRow_mono ho2 hBw.size⟩⟩
end Go.Proofs.Ytdfndcbakcmgiaa
namespace Go.Proofs.Ytdfndcbakcmgiaa
open Go.RowKit

def mkI (l c : Value) : Sem Value := Instr.makeSlice 46 l c
theorem mkI_fold (l c : Value) : Instr.makeSlice 46 l c = mkI l c := rfl
attribute [local go_sem ↓] mkI_fold
def intZ (l : List Int) : List Value := l.map fun x => Value.int .i64 x
theorem IntsAt.nil (w : World) (a : Option Addr) : IntsAt w a [] := fun k x h => by simp at h
theorem intsAt_row {w : World} {B g c : Nat} {l : List Int} (h : w.ownsRow B 3 1 (.slice (some ⟨g, 0, none⟩) l.length c) l.length (intZ l)) : IntsAt w (some ⟨g, 0, none⟩) l := fun k x hx => by
  have hk := (List.getElem?_eq_some_iff.1 hx).1
  refine ⟨g, 0, rfl, ?_⟩
  rw [Nat.zero_add, h.cellAt k (by omega)]
  simp [intZ, hx]
theorem IntsAt.take {w : World} {a : Option Addr} {l : List Int} (h : IntsAt w a l) (n : Nat) : IntsAt w a (l.take n) := fun k x hx => by
  rw [List.getElem?_take] at hx
  split at hx
  · exact h k x hx
  · cases hx

set_option maxRecDepth 100000 in
set_option maxHeartbeats 2000000 in
theorem sameInts_true (a b : Option Addr) (ca cb : Nat) (l : List Int) (hl : l.length ≤ maxLen) (w : World) (ha : IntsAt w a l) (hb : IntsAt w b l) :
    Calls Try.prog 30 #[.slice a l.length ca, .slice b l.length cb] w fun e w' => e = .returned (.bool true) ∧ Below w.heap.size w w' := by
  unfold maxLen at hl
  go_enter Try.func30, Try.ntmps30
  go_wp2
  go_loopw [5] (fun x wr => ∃ k : Nat, k ≤ l.length ∧ x = .int .i64 (k : Int) ∧ Below w.heap.size w wr) (fun x _ => l.length - (intOf x).toNat)
  case atStart => exact ⟨0, Nat.zero_le _, rfl, Below.refl _ _⟩
  case round =>
    obtain ⟨k, hk, rfl, hBr⟩ := hrel
    by_cases hkl : k < l.length
    · obtain ⟨x, hx⟩ := get_some l k hkl
      obtain ⟨g1, o1, e1, c1⟩ := ha k x hx
      obtain ⟨g2, o2, e2, c2⟩ := hb k x hx
      subst e1 e2
      have c1' := cell_later hBr c1
      have c2' := cell_later hBr c2
      have k0 : (0 : Int) ≤ (k : Int) := by omega
      have kl : (k : Int) < (l.length : Int) := by omega
      clear hx ha hb c1 c2
      go_upto_region 6 with fail
      go_quiet (fail)
      go_wp2
      go_roundw
      case rel => exact ⟨k + 1, by omega, rfl, hBr.trans ((below_drewN _ _).mono hBr.size)⟩
      case measure => (simp [intOf] <;> omega)
    · have kl : ¬ (k : Int) < (l.length : Int) := by omega
      go_wp2
      go_ret
      exact ⟨rfl, hBr⟩

theorem madeI (n : Nat) : (madeCells (Value.int .i64 0).cells (n * 1)).toList = List.replicate n (Value.int .i64 0) := by
  apply List.ext_getElem?
  intro i
  by_cases h : i < n
  · simp [madeCells, Value.cells, h]
    rw [Nat.mod_one]; rfl
  · simp [madeCells, Value.cells, h]

theorem infoI1 : (Try.prog.info? 3).map (·.size) = some 1 := by
  obtain ⟨i, h1, _, h2, _⟩ := info_split infoInt
  rw [h1]; simp [h2]
theorem intZ_one (l : List Int) : ∀ v ∈ intZ l, v.oneCell' = true := by
  intro v hv
  simp only [intZ, List.mem_map] at hv
  obtain ⟨x, _, rfl⟩ := hv
  rfl
/-- A list of numbers is copied to the head of a row. -/
theorem copyI (w0 w : World) (B g dLen : Nat) (hB : Below B w0 w) (hBg : B ≤ g) (cur : List Value) (hg : w.heap[g]? = some (.cells cur.toArray 3 (0, 0))) (a : Option Addr) (ca : Nat) (ev : List Int) (ha : IntsAt w a ev) (hd : ev.length ≤ dLen) (hc : ev.length ≤ cur.length) :
    ∃ wc, (Builtin.copy_ #[46, 46] 3 #[.slice (some ⟨g, 0, none⟩) dLen dLen, .slice a ev.length ca]).run Try.prog w = .ok (goInt ev.length) wc ∧ wc.heap[g]? = some (.cells (intZ ev ++ cur.drop ev.length).toArray 3 (0, 0)) ∧ Below B w0 wc := by
  have hlz : (intZ ev).length = ev.length := by simp [intZ]
  by_cases h0 : ev.length = 0
  · obtain rfl : ev = [] := List.eq_nil_of_length_eq_zero h0
    exact ⟨w, run_copy_none w _ _ _ 3 _ _ _ _ _ _ Try.underlying46 infoI1 (by simp), by simpa [intZ] using hg, hB⟩
  · obtain ⟨x, hx⟩ := get_some ev 0 (by omega)
    obtain ⟨g2, o2, rfl, _⟩ := ha 0 x hx
    have h := run_copy_row (P := Try.prog) w 46 46 3 3 g 0 dLen dLen ⟨g2, o2, none⟩ ev.length ca cur.toArray 3 (intZ ev) Try.underlying46 infoI1 hg (by rw [hlz]; exact (Nat.min_eq_left hd).symm) (fun j v hv => by
      simp only [intZ, List.getElem?_map, Option.map_eq_some_iff] at hv
      obtain ⟨y, hy, rfl⟩ := hv
      obtain ⟨g3, o3, e3, c3⟩ := ha j y hy
      simp only [Option.some.injEq, Addr.mk.injEq, and_true] at e3
      obtain ⟨rfl, rfl⟩ := e3
      have hadd : (⟨g2, o2, none⟩ : Addr).add j = ⟨g2, o2 + j, none⟩ := by unfold Addr.add; split <;> simp_all
      rw [hadd]; exact c3) (by simpa [hlz] using hc) (intZ_one ev)
    rw [hlz] at h
    refine ⟨_, h, ?_, below_setRow hB hBg _⟩
    have := setRow_heap w g _ (List.take 0 cur.toArray.toList ++ intZ ev ++ List.drop (0 + ev.length) cur.toArray.toList).toArray 3 _ hg
    simpa using this

set_option maxRecDepth 100000 in
set_option maxHeartbeats 2000000 in
theorem handed_any (a : Option Addr) (ca : Nat) (ev : List Int) (hl : ev.length ≤ 17592186044416) (w : World) (ha : IntsAt w a ev) :
    Calls Try.prog 27 #[.slice a ev.length ca] w fun e w' => e = .returned (.slice (some ⟨w.heap.size, 0, none⟩) (ev ++ [-77, -77]).length (ev ++ [-77, -77]).length) ∧ Below w.heap.size w w' ∧ w'.ownsRow w.heap.size 3 1 (.slice (some ⟨w.heap.size, 0, none⟩) (ev ++ [-77, -77]).length (ev ++ [-77, -77]).length) (ev ++ [-77, -77]).length (intZ (ev ++ [-77, -77])) := by
  obtain ⟨i0, hi0, hz0, hz1, hz2⟩ := info_split infoInt
  obtain ⟨wm, hmk, hom, hgm⟩ := run_make_full (P := Try.prog) w w.heap.size 46 3 i0 (.int .i64 0) 1 Try.underlying46 hi0 hz0 hz1 .i64 .i64 (ev.length + 2) (by rw [hz2]; omega) (by unfold maxLen; omega) (Nat.le_refl _)
  rw [mkI_fold] at hmk
  rw [madeI] at hom
  have hBm : Below w.heap.size w wm := below_grown (Below.refl _ _) (Nat.le_refl _) hgm (fun k hk => by cases hk)
  obtain ⟨cur, hcur⟩ : ∃ cur : List Value, wm.heap[w.heap.size]? = some (.cells cur.toArray 3 (0, 0)) ∧ cur = List.replicate (ev.length + 2) (.int .i64 0) := by
    rcases hom.2 with ⟨h, _⟩ | ⟨g, cap, cur, h1, _, h3, _, _, h5, h6⟩
    · cases h
    · simp only [Value.slice.injEq, Option.some.injEq, Addr.mk.injEq, and_true, true_and] at h1
      obtain ⟨rfl, rfl⟩ := h1
      refine ⟨cur.toList, by simpa using h3, ?_⟩
      rw [← h6, List.take_of_length_le (by rw [Array.length_toList, h5]; exact Nat.le_refl _)]
  have hlen : (((ev.length + 2 : Nat)) : Int) = (ev.length : Int) + 2 := by omega
  rw [hlen] at hmk
  clear hi0 hz0 hz1 hz2 hgm hlen
  obtain ⟨hblk, hcv⟩ := hcur
  subst hcv
  obtain ⟨wc, hcp, hbc, hBc⟩ := copyI w wm w.heap.size w.heap.size (ev.length + 2) hBm (Nat.le_refl _) _ hblk a ca ev (ha.below hBm) (by omega) (by simp)
  have hdr : intZ ev ++ (List.replicate (ev.length + 2) (Value.int .i64 0)).drop ev.length = intZ ev ++ [.int .i64 0, .int .i64 0] := by
    rw [List.drop_replicate, show ev.length + 2 - ev.length = 2 by omega]; rfl
  rw [hdr] at hbc
  have hlz : (intZ ev).length = ev.length := by simp [intZ]
  have d0 : wc.cell? ⟨w.heap.size, ev.length, none⟩ = some (.int .i64 0) := cellB hbc (by simp [hlz])
  have d1 : wc.cell? ⟨w.heap.size, ev.length + 1, none⟩ = some (.int .i64 0) := cellB hbc (by simp [hlz])
  have z0 := frozen_of_row _ _ ev.length _ _ hbc
  have z1 := frozen_of_row _ _ (ev.length + 1) _ _ hbc
  have n0 : (0 : Int) ≤ (ev.length : Int) := by omega
  have hs1 := heap_setCell_same _ _ (ev.length + 1) _ _ (.int .i64 (-77)) (heap_setCell_same _ _ ev.length _ _ (.int .i64 (-77)) hbc)
  have harr : (((intZ ev ++ [Value.int .i64 0, .int .i64 0]).toArray.setIfInBounds ev.length (.int .i64 (-77))).setIfInBounds (ev.length + 1) (.int .i64 (-77))) = (intZ (ev ++ [-77, -77])).toArray := by
    simp only [List.setIfInBounds_toArray]
    congr 1
    rw [List.set_append, if_neg (by omega), hlz, Nat.sub_self, List.set_append, if_neg (by omega), hlz, show ev.length + 1 - ev.length = 1 by omega]
    simp [intZ]
  rw [harr] at hs1
  have HS1 := show Hid _ from hs1
  clear hdr harr hs1 hbc hblk hom hBm ha
  go_enter Try.func27, Try.ntmps27
  go_wp2
  go_ret
  refine ⟨by simp, (hBc.setCell (Nat.le_refl _) _).setCell (Nat.le_refl _) _, ?_⟩
  refine ⟨by simp [intZ], .inr ⟨w.heap.size, _, _, rfl, Nat.le_refl _, HS1.out, Nat.le_refl _, by unfold maxLen; simp; omega, by simp [intZ], ?_⟩⟩
  rw [List.take_of_length_le (by simp [intZ])]
end Go.Proofs.Ytdfndcbakcmgiaa
namespace Go.Proofs.Ytdfndcbakcmgiaa
open Go.RowKit

/-! Close: the program's answer and the reference's are the same list. -/
theorem listB_sub {a b : List Bool} (h1 : Sub a b) (h2 : Sub b a) (n : Nat) : listB a n = listB b n := by
  unfold listB
  apply List.filter_congr
  intro x _
  rw [Bool.eq_iff_iff, getD_true, getD_true]
  exact ⟨h1 x, h2 x⟩
theorem midS_unique {log : List Ev} {m0 a b : List Bool} (ha : MidS log m0 a) (ca : ClosedS log a) (hb : MidS log m0 b) (cb : ClosedS log b) (n : Nat) : listB a n = listB b n :=
  listB_sub (ha.least b cb hb.sub) (hb.least a ca ha.sub) n
theorem mark_sub {n k : Nat} {l : List Int} (h : inR n l) (hk : n ≤ k) : Sub (markE n l) (markE k l) ∧ Sub (markE k l) (markE n l) := by
  constructor
  · intro x hx
    obtain ⟨h1, h2⟩ := (markE_iff n l x).1 hx
    exact (markE_iff k l x).2 ⟨by omega, h2⟩
  · intro x hx
    obtain ⟨_, y, hy, e⟩ := (markE_iff k l x).1 hx
    have := h y hy
    exact (markE_iff n l x).2 ⟨by omega, y, hy, e⟩
theorem Mid.toS {log : List Ev} {l : List Int} {m : List Bool} (h : Mid log (markE log.length l) m) (hin : inR log.length l) (h60 : log.length ≤ 60) : MidS log (markE 60 l) m := by
  obtain ⟨h1, h2⟩ := mark_sub hin h60
  exact ⟨h2.trans h.sub, fun M hM hs => h.least M hM (h1.trans hs)⟩

/-- There is one list that is told of the least closed set. -/
theorem closeL_ex (log : List Ev) (ev : List Int) : ∃ L : List Nat, L.length ≤ log.length ∧ ∀ m, MidS log (markE 60 ev) m → ClosedS log m → listB m log.length = L := by
  by_cases h : ∃ m, MidS log (markE 60 ev) m ∧ ClosedS log m
  · obtain ⟨m0, h1, h2⟩ := h
    exact ⟨listB m0 log.length, listB_len _ _, fun m h3 h4 => midS_unique h3 h4 h1 h2 _⟩
  · exact ⟨[], by simp, fun m h1 h2 => absurd ⟨m, h1, h2⟩ h⟩

theorem row_slice {w : World} {B n : Nat} {v : Value} {xs : List Value} (h : w.ownsRow B 3 1 v n xs) : ∃ a c, v = .slice a n c := by
  rcases h.2 with ⟨rfl, rfl⟩ | ⟨g, cap, _, rfl, _⟩
  · exact ⟨none, 0, rfl⟩
  · exact ⟨_, cap, rfl⟩
/-- One answer of Close. -/
def ClP (L : List Nat) (x : Int) (w : World) (e : Ending) (w' : World) : Prop :=
  ∃ a c, e = .returned (.tuple #[.slice a L.length c, .int .i64 x]) ∧ Below w.heap.size w w' ∧ w'.ownsRow w.heap.size 3 1 (.slice a L.length c) L.length (intV L) ∧ (x ≠ 0 → a = none)
theorem clP_nil {x : Int} {w w' : World} {e : Ending} (he : e = .returned (.tuple #[.slice none 0 0, .int .i64 x])) (hb : Below w.heap.size w w') : ClP [] x w e w' :=
  ⟨none, 0, he, hb, World.ownsRow_nil _ _ _ _, fun _ => rfl⟩

theorem close_both (s sch : ByteArray) (hsch : sch.size ≤ maxLen) (ev : List Int) (hll : ev.length ≤ maxLen) : ∃ (L : List Nat) (x : Int), L.length ≤ 60 ∧
    (∀ (w : World) (a : Option Addr) (c n : Nat), n = ev.length → IntsAt w a ev → Calls Try.prog 28 #[.string s, .string sch, .slice a n c] w fun e w' => ClP L x w e w') ∧
    (∀ (w : World) (a : Option Addr) (c n : Nat), n = ev.length → IntsAt w a ev → Calls Try.prog 29 #[.string s, .string sch, .slice a n c] w fun e w' => ClP L x w e w') := by
  by_cases h : (ckP s).1 ≠ 0
  · refine ⟨[], (ckP s).1, by simp, fun w a c n hn _ => ?_, fun w a c n hn _ => ?_⟩
    · exact (close_bad s sch a n c _ h w (fun w => traceOf_err s sch w h)).mono fun e w' ⟨he, hb⟩ => clP_nil he hb
    · exact (refClose_err s sch a c n w h).mono fun e w' ⟨he, hb⟩ => clP_nil he hb
  · have h0 : (ckP s).1 = 0 := by omega
    cases hW : toLoop sch (beginW (thLoop s 0 0 [])) 0 with
    | none =>
      refine ⟨[], 5, by simp, fun w a c n hn _ => ?_, fun w a c n hn _ => ?_⟩
      · exact (close_bad s sch a n c 5 (by decide) w (fun w => traceOf_none s sch hsch w h0 hW)).mono fun e w' ⟨he, hb⟩ => clP_nil he hb
      · exact (refClose_none s sch a c n hsch w h0 hW).mono fun e w' ⟨he, hb⟩ => clP_nil he hb
    | some W =>
      have hsm := (toLoop_inv sch _ 0 _ W rfl (begin_inv s h0) hW).1.small
      by_cases hin : inR W.log.length ev
      · obtain ⟨L, hLl, hLe⟩ := closeL_ex W.log ev
        refine ⟨L, 0, Nat.le_trans hLl hsm, fun w a c n hn hA => ?_, fun w a c n hn hA => ?_⟩
        · subst hn
          refine (close_ok s sch a c ev hll hsch w hA h0 W hW).mono ?_
          rintro e w' ⟨hb, ⟨hno, _⟩ | ⟨_, g', c', m, h1, h2, _, he, ho⟩⟩
          · exact absurd hin hno
          · rw [hLe m h1 h2] at he ho
            exact ⟨_, c', he, hb, ho, fun hx => absurd rfl hx⟩
        · subst hn
          refine (refClose_ok s sch a c ev hll hsch w hA h0 W hW).mono ?_
          rintro e w' ⟨hb, ⟨hno, _⟩ | ⟨_, m, v, h1, h2, he, ho⟩⟩
          · exact absurd hin hno
          · have ho2 : w'.ownsRow w.heap.size 3 1 v (listB m W.log.length).length (intV (listB m W.log.length)) := ho
            rw [hLe m (h1.toS hin hsm) h2] at ho2
            obtain ⟨a', c', rfl⟩ := row_slice ho2
            exact ⟨a', c', he, hb, ho2, fun hx => absurd rfl hx⟩
      · refine ⟨[], 6, by simp, fun w a c n hn hA => ?_, fun w a c n hn hA => ?_⟩
        · subst hn
          refine (close_ok s sch a c ev hll hsch w hA h0 W hW).mono ?_
          rintro e w' ⟨hb, ⟨_, he⟩ | ⟨hi, _⟩⟩
          · exact clP_nil he hb
          · exact absurd hi hin
        · subst hn
          refine (refClose_ok s sch a c ev hll hsch w hA h0 W hW).mono ?_
          rintro e w' ⟨hb, ⟨_, he⟩ | ⟨hi, _⟩⟩
          · exact clP_nil he hb
          · exact absurd hi hin
end Go.Proofs.Ytdfndcbakcmgiaa
namespace Go.Proofs.Ytdfndcbakcmgiaa
open Go.RowKit

theorem sameInts_len (a b : Option Addr) (ca cb n : Nat) (l : List Int) (hn : n = l.length) (hl : l.length ≤ maxLen) (w : World) (ha : IntsAt w a l) (hb : IntsAt w b l) :
    Calls Try.prog 30 #[.slice a n ca, .slice b n cb] w fun e w' => e = .returned (.bool true) ∧ Below w.heap.size w w' := by
  subst hn; exact sameInts_true a b ca cb l hl w ha hb
theorem grownBy_refl (w : World) (r : Option Nat) : w.grownBy w r := ⟨rfl, rfl, rfl, Nat.le_refl _, fun _ _ _ => rfl⟩
theorem grownBy_setCell {X w : World} {g : Nat} (h : X.grownBy w (some g)) (i : Nat) (u : Value) : X.grownBy (w.setCell ⟨g, i, none⟩ u) (some g) := by
  have hb := (Below.refl 0 w).setCell (p := ⟨g, i, none⟩) (Nat.zero_le _) u
  exact ⟨hb.os.trans h.os, hb.tape.trans h.tape, hb.output.trans h.output, Nat.le_trans h.size hb.size, fun k hk hne => (heap_setCell_other _ _ _ _ (by simpa using hne)).trans (h.block k hk hne)⟩
theorem IntsAt.grown {X w : World} {r : Option Nat} {a : Option Addr} {l : List Int} (h : IntsAt X a l) (hg : X.grownBy w r) (hne : ∀ p, a = some p → some p.block ≠ r) : IntsAt w a l := fun k x hx => by
  obtain ⟨g, o, rfl, hc⟩ := h k x hx
  refine ⟨g, o, rfl, ?_⟩
  rw [World.cell?_of_block (w := X) (a := ⟨g, o + k, none⟩) (hg.block g (World.block_lt_of_cell? X _ hc) (hne _ rfl))]
  exact hc
theorem intsAt_rowV {w : World} {B n c : Nat} {a : Option Addr} {L : List Nat} (hn : n = L.length) (h : w.ownsRow B 3 1 (.slice a n c) n (intV L)) : IntsAt w a (L.map fun (x : Nat) => (x : Int)) := fun k x hx => by
  subst hn
  rcases h.2 with ⟨h1, h2⟩ | ⟨g, cap, cur, h1, _⟩
  · have hk := (List.getElem?_eq_some_iff.1 hx).1
    simp at hk; omega
  · simp only [Value.slice.injEq] at h1
    obtain ⟨rfl, _, rfl⟩ := h1
    have hk : k < L.length := by have := (List.getElem?_eq_some_iff.1 hx).1; simpa using this
    refine ⟨g, 0, rfl, ?_⟩
    rw [Nat.zero_add, h.cellAt k (by omega)]
    simp only [List.getElem?_map, Option.map_eq_some_iff] at hx
    obtain ⟨y, hy, rfl⟩ := hx
    simp [intV, hy]
theorem own_block {w : World} {B n c : Nat} {a : Option Addr} {xs : List Value} (h : w.ownsRow B 3 1 (.slice a n c) n xs) : ∀ p, a = some p → B ≤ p.block ∧ p.block < w.heap.size := fun p hp => by
  subst hp
  exact h.lt p.block rfl

set_option maxRecDepth 100000 in
set_option maxHeartbeats 8000000 in
theorem Closes_walk (s sch : ByteArray) (hsch : sch.size ≤ maxLen) (a : Option Addr) (ca : Nat) (ev : List Int) (hl : ev.length ≤ 17592186044416) (w : World) (hA : IntsAt w a ev) :
    Calls Try.prog 8 #[.string s, .string sch, .slice a ev.length ca] w fun e w' => e = .returned (.bool true) ∧ Below w.heap.size w w' := by
  have hll : ev.length ≤ maxLen := by unfold maxLen; omega
  obtain ⟨L, x, hL60, hP, hQ⟩ := close_both s sch hsch ev hll
  obtain ⟨ev2, hev2⟩ : ∃ ev2, ev2 = ev ++ [-77, -77] := ⟨_, rfl⟩
  have hlen2 : ev2.length = ev.length + 2 := by rw [hev2]; simp
  have htk : ev2.take ev.length = ev := by rw [hev2]; simp
  have hHd := fun w hA => handed_any a ca ev hl w hA
  rw [← hev2, hlen2] at hHd
  have hInt : ∀ (w' : World) (g : Nat), w'.ownsRow g 3 1 (.slice (some ⟨g, 0, none⟩) (ev.length + 2) (ev.length + 2)) (ev.length + 2) (intZ ev2) → IntsAt w' (some ⟨g, 0, none⟩) ev2 := fun w' g h => by
    rw [← hlen2] at h
    exact intsAt_row h
  have n0 : (0 : Int) ≤ (ev.length : Int) := by omega
  have HL2 : Hid (ev2.length = ev.length + 2) := hlen2
  have HTK : Hid (ev2.take ev.length = ev) := htk
  clear hev2 hlen2 htk
  go_enter Try.func8, Try.ntmps8
  go_upto_region 3 with (first | (go_at_call 27; refine (hHd _ hA).mono ?_; rintro e w1 ⟨rfl, hb1, ho1⟩))
  go_upto_region 4 with (first | (go_at_call 27; refine (hHd _ (hA.below hb1)).mono ?_; rintro e w2 ⟨rfl, hb2, ho2⟩))
  have i1 := (hInt _ _ ho1).below hb2
  have i2 := hInt _ _ ho2
  have hl1 : w.heap.size < w1.heap.size := (ho1.lt w.heap.size rfl).2
  have hl2 : w1.heap.size < w2.heap.size := (ho2.lt w1.heap.size rfl).2
  have iT : IntsAt w2 (some ⟨w.heap.size, 0, none⟩) ev := by have := i1.take ev.length; rw [HTK.out] at this; exact this
  have hB2 := hb1.trans (hb2.mono hb1.size)
  have iA := hA.below hB2
  clear hHd hInt ho1 ho2 hA
  go_upto_region 5 with (first | (go_at_call 28; refine (hP _ _ _ _ rfl iT).mono ?_; rintro e w3 ⟨al, cl, rfl, hb3, ho3, hx3⟩))
  go_upto_region 6 with (first | (go_at_call 29; refine (hQ _ _ _ _ rfl (iA.below hb3)).mono ?_; rintro e w4 ⟨am, cm, rfl, hb4, ho4, hx4⟩))
  have j3 := (intsAt_rowV rfl ho3).below hb4
  have j4 := intsAt_rowV rfl ho4
  have bl := own_block ho3
  have bm := own_block ho4
  obtain ⟨Lz, hLz⟩ : ∃ Lz, (L.map fun (x : Nat) => (x : Int)) = Lz := ⟨_, rfl⟩
  have HLZ : Hid (L.length = Lz.length) := by rw [Hid, ← hLz]; simp
  have hLm : Lz.length ≤ maxLen := by rw [← HLZ.out]; unfold maxLen; omega
  have hIV : ∀ (w' : World) (B c : Nat) (z : Option Addr), w'.ownsRow B 3 1 (.slice z L.length c) L.length (intV L) → IntsAt w' z Lz := fun w' B c z h => by rw [← hLz]; exact intsAt_rowV rfl h
  rw [hLz] at j3 j4
  clear hLz
  have hE2 : ev2.length ≤ maxLen := by rw [HL2.out]; unfold maxLen; omega
  have hSL := fun w' ha hb => sameInts_len al am cl cm L.length Lz HLZ.out hLm w' ha hb
  have hSA := fun (z : Option Addr) (cz : Nat) w' ha hb => sameInts_len z am cz cm L.length Lz HLZ.out hLm w' ha hb
  have hSH := fun w' ha hb => sameInts_len (some ⟨w.heap.size, 0, none⟩) (some ⟨w1.heap.size, 0, none⟩) (ev.length + 2) (ev.length + 2) (ev.length + 2) ev2 HL2.out.symm hE2 w' ha hb
  have hB4 := hb3.trans (hb4.mono hb3.size)
  go_upto_region 7 with (first | (go_at_call 30; refine (hSL _ j3 j4).mono ?_; rintro e w5 ⟨rfl, hb5⟩))
  have hB5 := hB4.trans (hb5.mono hB4.size)
  go_upto_region 8 with (first | (go_at_call 30; refine (hSH _ (i1.below hB5) (i2.below hB5)).mono ?_; rintro e w6 ⟨rfl, hb6⟩))
  have hB6 := hB5.trans (hb6.mono hB5.size)
  have hB46 := hb5.trans (hb6.mono hb5.size)
  have j3' := j3.below hB46
  have j4' := j4.below hB46
  have o3' := (ho3.kept (grownBy_of_below hb4) (by cases hz : (Value.slice al L.length cl).ownBlock <;> simp)).kept (grownBy_of_below hB46) (by cases hz : (Value.slice al L.length cl).ownBlock <;> simp)
  have hsz3 : w2.heap.size ≤ w3.heap.size := hb3.size
  have hsz4 : w3.heap.size ≤ w4.heap.size := hb4.size
  have hsz6 : w4.heap.size ≤ w6.heap.size := hB46.size
  have hCl := hP w6 _ (ev.length + 2) _ rfl (iT.below hB6)
  have hBw6 := hB2.trans (hB6.mono hB2.size)
  clear hP hQ ho3 ho4 hb1 hb2 hb3 hb4 hb5 hb6 hB4 hB5 j3 j4 iA
  have key : (x != 0) = false ∨ ((x != 0) = true ∧ al = none) := by
    by_cases hx : x = 0
    · exact .inl (by simp [hx])
    · exact .inr ⟨by simpa using hx, hx3 hx⟩
  clear hx3 hx4
  go_cut [66] (fun v wc => v = .bool false ∧ wc = w6)
  case first =>
    rcases key with hx0 | ⟨hx1, hal⟩
    · go_wp2
      go_meet
      case rel => exact ⟨rfl, rfl⟩
    · subst hal
      go_wp2
      go_meet
      case rel => exact ⟨rfl, rfl⟩
  case rest =>
    obtain ⟨rfl, hwc⟩ := hcut
    have hwd := hwc.symm
    clear hwc
    subst hwd
    go_upto_region 11 with (first | (go_at_call 28; refine hCl.mono ?_; rintro e w7 ⟨aa, cc, rfl, hb7, ho7, hx7⟩))
    have o7 := o3'.kept (grownBy_of_below hb7) (by cases hz : (Value.slice al L.length cl).ownBlock <;> simp)
    have hform : (al = none ∧ cl = 0) ∨ ∃ g cur, al = some ⟨g, 0, none⟩ ∧ w7.heap[g]? = some (.cells cur 3 (0, 0)) ∧ cur.size = cl ∧ w2.heap.size ≤ g ∧ g < w3.heap.size ∧ cl ≤ maxLen := by
      rcases o7.2 with ⟨h1, _⟩ | ⟨g, cap, cur, h1, _, h3, _, h5, h6, _⟩
      · simp only [Value.slice.injEq] at h1
        exact .inl ⟨h1.1, h1.2.2⟩
      · simp only [Value.slice.injEq] at h1
        obtain ⟨rfl, _, rfl⟩ := h1
        obtain ⟨h7, h8⟩ := bl _ rfl
        exact .inr ⟨g, cur, rfl, h3, by omega, h7, h8, h5⟩
    have hlL : L.length ≤ cl := by
      rcases o7.2 with ⟨h1, h2⟩ | ⟨g, cap, cur, h1, _, _, h4, _⟩
      · omega
      · simp only [Value.slice.injEq] at h1
        omega
    have j7 := hIV _ _ _ _ ho7
    have b7 := own_block ho7
    have hsz7 : w6.heap.size ≤ w7.heap.size := hb7.size
    have j4'' := j4'.below hb7
    have i1' := (i1.below hB6).below hb7
    have i2' := (i2.below hB6).below hb7
    have hBw7 := hBw6.trans (hb7.mono hBw6.size)
    clear o3' o7 ho7 hIV hCl hx7 key j3' j4' i1 i2 iT
    go_cut [18] (fun v wc => v = .slice al cl cl ∧ wc = w7)
    case first =>
      rcases hform with ⟨h1, h2⟩ | ⟨g, cur, h1, _, _, _, _, hm⟩
      · subst h1 h2
        go_wp2
        go_meet
        case rel => exact ⟨rfl, rfl⟩
      · subst h1
        unfold maxLen at hm
        have c0 : (0 : Int) ≤ (cl : Int) := by omega
        go_wp2
        go_meet
        case rel => exact ⟨rfl, rfl⟩
    case rest =>
      obtain ⟨rfl, hwc⟩ := hcut
      have hwd := hwc.symm
      clear hwc
      subst hwd
      obtain ⟨bk, hbk, hbn⟩ : ∃ bk : Option Nat, (∀ p, al = some p → bk = some p.block) ∧ (∀ k, bk = some k → w2.heap.size ≤ k ∧ k < w3.heap.size) := by
        rcases hform with ⟨h1, _⟩ | ⟨g, cur, h1, _, _, h7, h8, _⟩
        · exact ⟨none, (fun p hp => by rw [h1] at hp; cases hp), (fun k hk => by cases hk)⟩
        · exact ⟨some g, (fun p hp => by rw [h1] at hp; cases hp; rfl), (fun k hk => by cases hk; exact ⟨h7, h8⟩)⟩
      go_wp2
      go_loopw [19] (fun i wr => ∃ k : Nat, k ≤ cl ∧ i = .int .i64 (k : Int) ∧ w7.grownBy wr bk ∧ (∀ g cur, al = some ⟨g, 0, none⟩ → w7.heap[g]? = some (.cells cur 3 (0, 0)) → ∃ cur', wr.heap[g]? = some (.cells cur' 3 (0, 0)) ∧ cur'.size = cur.size)) (fun i _ => cl - (intOf i).toNat)
      case atStart => exact ⟨0, Nat.zero_le _, rfl, grownBy_refl _ _, fun g cur _ h => ⟨cur, h, rfl⟩⟩
      case round =>
        obtain ⟨k, hk, rfl, hgr, hrow⟩ := hrel
        by_cases hkc : k < cl
        · rcases hform with ⟨_, h2⟩ | ⟨g, cur, h1, h3, h4, h7, h8, hm⟩
          · omega
          · have hbg := hbk _ h1
            simp only at hbg
            obtain ⟨cur', hc1, hc2⟩ := hrow g cur h1 h3
            subst h1 hbg
            have ck : wr.cell? ⟨g, k, none⟩ = some (cur'[k]'(by omega)) := cellB hc1 (by simp)
            have zk := frozen_of_row _ _ k _ _ hc1
            unfold maxLen at hm
            have k0 : (0 : Int) ≤ (k : Int) := by omega
            have kc : (k : Int) < (cl : Int) := by omega
            go_wp2
            go_roundw
            case rel =>
              refine ⟨k + 1, by omega, rfl, grownBy_setCell hgr k _, fun g2 cur2 e2 hh => ?_⟩
              simp only [Option.some.injEq, Addr.mk.injEq, and_true] at e2
              subst e2
              rw [h3] at hh
              cases hh
              exact ⟨_, heap_setCell_same _ _ k _ _ _ hc1, by simpa using hc2⟩
            case measure => (simp [intOf] <;> omega)
        · have kc : ¬ (k : Int) < (cl : Int) := by omega
          have nb : ∀ m, (m < w2.heap.size ∨ w3.heap.size ≤ m) → some m ≠ bk := fun m hm e => by have := hbn m e.symm; omega
          have i1r := i1'.grown hgr (fun p hp => by cases hp; exact nb _ (.inl (by simp; omega)))
          have i2r := i2'.grown hgr (fun p hp => by cases hp; exact nb _ (.inl (by simp; omega)))
          have jar := j7.grown hgr (fun p hp => nb _ (.inr (by have := (b7 p hp).1; omega)))
          have jmr := j4''.grown hgr (fun p hp => nb _ (.inr (bm p hp).1))
          have hBr : Below w.heap.size w wr := below_grown hBw7 hBw7.size hgr (fun m hm => by have := (hbn m hm).1; omega)
          clear hform hbk hrow i1' i2' j7 j4''
          go_upto_region 17 with (first | (go_at_call 30; refine (hSH _ i1r i2r).mono ?_; rintro e w8 ⟨rfl, hb8⟩))
          go_wp2_with (first | (go_at_call 30; refine (hSA _ _ _ (jar.below hb8) (jmr.below hb8)).mono ?_; rintro e w9 ⟨rfl, hb9⟩))
          go_ret
          have hB8 := hBr.trans (hb8.mono hBr.size)
          exact ⟨rfl, hB8.trans (hb9.mono hB8.size)⟩
end Go.Proofs.Ytdfndcbakcmgiaa
