import Derived.Test.YtfdbnilopfnifaaT16
import Derived.Laws.CopyOwn
namespace Go.Proofs.Ytfdbnilopfnifaa
open Go.RowKit

def mkI (l c : Value) : Sem Value := Instr.makeSlice 46 l c
theorem mkI_fold (l c : Value) : Instr.makeSlice 46 l c = mkI l c := rfl
attribute [local go_sem ↓] mkI_fold
def intZ (l : List Int) : List Value := l.map fun x => Value.int .i64 x
theorem IntsAt.nil (w : World) (a : Option Addr) : IntsAt w a [] := fun k x h => by simp at h
theorem intsAt_row {w : World} {B g c : Nat} {l : List Int} (h : w.ownsRow B 3 1 (.slice (some ⟨g, 0, none⟩) l.length c) l.length (intZ l)) : IntsAt w (some ⟨g, 0, none⟩) l := fun k x hx => by
  have hk := (List.getElem?_eq_some_iff.1 hx).1
  refine ⟨g, 0, rfl, ?_⟩
  rw [Nat.zero_add, h.cellAt k (by omega)]
  simp [intZ, hx]
theorem IntsAt.take {w : World} {a : Option Addr} {l : List Int} (h : IntsAt w a l) (n : Nat) : IntsAt w a (l.take n) := fun k x hx => by
  rw [List.getElem?_take] at hx
  split at hx
  · exact h k x hx
  · cases hx

set_option maxRecDepth 100000 in
set_option maxHeartbeats 2000000 in
theorem sameInts_true (a b : Option Addr) (ca cb : Nat) (l : List Int) (hl : l.length ≤ maxLen) (w : World) (ha : IntsAt w a l) (hb : IntsAt w b l) :
    Calls Try.prog 30 #[.slice a l.length ca, .slice b l.length cb] w fun e w' => e = .returned (.bool true) ∧ Below w.heap.size w w' := by
  unfold maxLen at hl
  go_enter Try.func30, Try.ntmps30
  go_wp2
  go_loopw [5] (fun x wr => ∃ k : Nat, k ≤ l.length ∧ x = .int .i64 (k : Int) ∧ Below w.heap.size w wr) (fun x _ => l.length - (intOf x).toNat)
  case atStart => exact ⟨0, Nat.zero_le _, rfl, Below.refl _ _⟩
  case round =>
    obtain ⟨k, hk, rfl, hBr⟩ := hrel
    by_cases hkl : k < l.length
    · obtain ⟨x, hx⟩ := get_some l k hkl
      obtain ⟨g1, o1, e1, c1⟩ := ha k x hx
      obtain ⟨g2, o2, e2, c2⟩ := hb k x hx
      subst e1 e2
      have c1' := cell_later hBr c1
      have c2' := cell_later hBr c2
      have k0 : (0 : Int) ≤ (k : Int) := by omega
      have kl : (k : Int) < (l.length : Int) := by omega
      clear hx ha hb c1 c2
      go_upto_region 6 with fail
      go_quiet (fail)
      go_wp2
      go_roundw
      case rel => exact ⟨k + 1, by omega, rfl, hBr.trans ((below_drewN _ _).mono hBr.size)⟩
      case measure => (simp [intOf] <;> omega)
    · have kl : ¬ (k : Int) < (l.length : Int) := by omega
      go_wp2
      go_ret
      exact ⟨rfl, hBr⟩

theorem madeI (n : Nat) : (madeCells (Value.int .i64 0).cells (n * 1)).toList = List.replicate n (Value.int .i64 0) := by
  apply List.ext_getElem?
  intro i
  by_cases h : i < n
  · simp [madeCells, Value.cells, h]
    rw [Nat.mod_one]; rfl
  · simp [madeCells, Value.cells, h]

theorem infoI1 : (Try.prog.info? 3).map (·.size) = some 1 := by
  obtain ⟨i, h1, _, h2, _⟩ := info_split infoInt
  rw [h1]; simp [h2]
theorem intZ_one (l : List Int) : ∀ v ∈ intZ l, v.oneCell' = true := by
  intro v hv
  simp only [intZ, List.mem_map] at hv
  obtain ⟨x, _, rfl⟩ := hv
  rfl
/-- A list of numbers is copied to the head of a row. -/
theorem copyI (w0 w : World) (B g dLen : Nat) (hB : Below B w0 w) (hBg : B ≤ g) (cur : List Value) (hg : w.heap[g]? = some (.cells cur.toArray 3 (0, 0))) (a : Option Addr) (ca : Nat) (ev : List Int) (ha : IntsAt w a ev) (hd : ev.length ≤ dLen) (hc : ev.length ≤ cur.length) :
    ∃ wc, (Builtin.copy_ #[46, 46] 3 #[.slice (some ⟨g, 0, none⟩) dLen dLen, .slice a ev.length ca]).run Try.prog w = .ok (goInt ev.length) wc ∧ wc.heap[g]? = some (.cells (intZ ev ++ cur.drop ev.length).toArray 3 (0, 0)) ∧ Below B w0 wc := by
  have hlz : (intZ ev).length = ev.length := by simp [intZ]
  by_cases h0 : ev.length = 0
  · obtain rfl : ev = [] := List.eq_nil_of_length_eq_zero h0
    exact ⟨w, run_copy_none w _ _ _ 3 _ _ _ _ _ _ Try.underlying46 infoI1 (by simp), by simpa [intZ] using hg, hB⟩
  · obtain ⟨x, hx⟩ := get_some ev 0 (by omega)
    obtain ⟨g2, o2, rfl, _⟩ := ha 0 x hx
    have h := run_copy_row (P := Try.prog) w 46 46 3 3 g 0 dLen dLen ⟨g2, o2, none⟩ ev.length ca cur.toArray 3 (intZ ev) Try.underlying46 infoI1 hg (by rw [hlz]; exact (Nat.min_eq_left hd).symm) (fun j v hv => by
      simp only [intZ, List.getElem?_map, Option.map_eq_some_iff] at hv
      obtain ⟨y, hy, rfl⟩ := hv
      obtain ⟨g3, o3, e3, c3⟩ := ha j y hy
      simp only [Option.some.injEq, Addr.mk.injEq, and_true] at e3
      obtain ⟨rfl, rfl⟩ := e3
      have hadd : (⟨g2, o2, none⟩ : Addr).add j = ⟨g2, o2 + j, none⟩ := by unfold Addr.add; split <;> simp_all
      rw [hadd]; exact c3) (by simpa [hlz] using hc) (intZ_one ev)
    rw [hlz] at h
    refine ⟨_, h, ?_, below_setRow hB hBg _⟩
    have := setRow_heap w g _ (List.take 0 cur.toArray.toList ++ intZ ev ++ List.drop (0 + ev.length) cur.toArray.toList).toArray 3 _ hg
    simpa using this

set_option maxRecDepth 100000 in
set_option maxHeartbeats 2000000 in
theorem handed_any (a : Option Addr) (ca : Nat) (ev : List Int) (hl : ev.length ≤ 17592186044416) (w : World) (ha : IntsAt w a ev) :
    Calls Try.prog 27 #[.slice a ev.length ca] w fun e w' => e = .returned (.slice (some ⟨w.heap.size, 0, none⟩) (ev ++ [-77, -77]).length (ev ++ [-77, -77]).length) ∧ Below w.heap.size w w' ∧ w'.ownsRow w.heap.size 3 1 (.slice (some ⟨w.heap.size, 0, none⟩) (ev ++ [-77, -77]).length (ev ++ [-77, -77]).length) (ev ++ [-77, -77]).length (intZ (ev ++ [-77, -77])) := by
  obtain ⟨i0, hi0, hz0, hz1, hz2⟩ := info_split infoInt
  obtain ⟨wm, hmk, hom, hgm⟩ := run_make_full (P := Try.prog) w w.heap.size 46 3 i0 (.int .i64 0) 1 Try.underlying46 hi0 hz0 hz1 .i64 .i64 (ev.length + 2) (by rw [hz2]; omega) (by unfold maxLen; omega) (Nat.le_refl _)
  rw [mkI_fold] at hmk
  rw [madeI] at hom
  have hBm : Below w.heap.size w wm := below_grown (Below.refl _ _) (Nat.le_refl _) hgm (fun k hk => by cases hk)
  obtain ⟨cur, hcur⟩ : ∃ cur : List Value, wm.heap[w.heap.size]? = some (.cells cur.toArray 3 (0, 0)) ∧ cur = List.replicate (ev.length + 2) (.int .i64 0) := by
    rcases hom.2 with ⟨h, _⟩ | ⟨g, cap, cur, h1, _, h3, _, _, h5, h6⟩
    · cases h
    · simp only [Value.slice.injEq, Option.some.injEq, Addr.mk.injEq, and_true, true_and] at h1
      obtain ⟨rfl, rfl⟩ := h1
      refine ⟨cur.toList, by simpa using h3, ?_⟩
      rw [← h6, List.take_of_length_le (by rw [Array.length_toList, h5]; exact Nat.le_refl _)]
  have hlen : (((ev.length + 2 : Nat)) : Int) = (ev.length : Int) + 2 := by omega
  rw [hlen] at hmk
  clear hi0 hz0 hz1 hz2 hgm hlen
  obtain ⟨hblk, hcv⟩ := hcur
  subst hcv
  obtain ⟨wc, hcp, hbc, hBc⟩ := copyI w wm w.heap.size w.heap.size (ev.length + 2) hBm (Nat.le_refl _) _ hblk a ca ev (ha.below hBm) (by omega) (by simp)
  have hdr : intZ ev ++ (List.replicate (ev.length + 2) (Value.int .i64 0)).drop ev.length = intZ ev ++ [.int .i64 0, .int .i64 0] := by
    rw [List.drop_replicate, show ev.length + 2 - ev.length = 2 by omega]; rfl
  rw [hdr] at hbc
  have hlz : (intZ ev).length = ev.length := by simp [intZ]
  have d0 : wc.cell? ⟨w.heap.size, ev.length, none⟩ = some (.int .i64 0) := cellB hbc (by simp [hlz])
  have d1 : wc.cell? ⟨w.heap.size, ev.length + 1, none⟩ = some (.int .i64 0) := cellB hbc (by simp [hlz])
  have z0 := frozen_of_row _ _ ev.length _ _ hbc
  have z1 := frozen_of_row _ _ (ev.length + 1) _ _ hbc
  have n0 : (0 : Int) ≤ (ev.length : Int) := by omega
  have hs1 := heap_setCell_same _ _ (ev.length + 1) _ _ (.int .i64 (-77)) (heap_setCell_same _ _ ev.length _ _ (.int .i64 (-77)) hbc)
  have harr : (((intZ ev ++ [Value.int .i64 0, .int .i64 0]).toArray.setIfInBounds ev.length (.int .i64 (-77))).setIfInBounds (ev.length + 1) (.int .i64 (-77))) = (intZ (ev ++ [-77, -77])).toArray := by
    simp only [List.setIfInBounds_toArray]
    congr 1
    rw [List.set_append, if_neg (by omega), hlz, Nat.sub_self, List.set_append, if_neg (by omega), hlz, show ev.length + 1 - ev.length = 1 by omega]
    simp [intZ]
  rw [harr] at hs1
  have HS1 := show Hid _ from hs1
  clear hdr harr hs1 hbc hblk hom hBm ha
  go_enter Try.func27, Try.ntmps27
  go_wp2
  go_ret
  refine ⟨by simp, (hBc.setCell (Nat.le_refl _) _).setCell (Nat.le_refl _) _, ?_⟩
  refine ⟨by simp [intZ], .inr ⟨w.heap.size, _, _, rfl, Nat.le_refl _, HS1.out, Nat.le_refl _, by unfold maxLen; simp; omega, by simp [intZ], ?_⟩⟩
  rw [List.take_of_length_le (by simp [intZ])]
end Go.Proofs.Ytfdbnilopfnifaa
namespace Go.Proofs.Ytfdbnilopfnifaa
open Go.RowKit

/-! Close: the program's answer and the reference's are the same list. -/
theorem listB_sub {a b : List Bool} (h1 : Sub a b) (h2 : Sub b a) (n : Nat) : listB a n = listB b n := by
  unfold listB
  apply List.filter_congr
  intro x _
  rw [Bool.eq_iff_iff, getD_true, getD_true]
  exact ⟨h1 x, h2 x⟩
theorem midS_unique {log : List Ev} {m0 a b : List Bool} (ha : MidS log m0 a) (ca : ClosedS log a) (hb : MidS log m0 b) (cb : ClosedS log b) (n : Nat) : listB a n = listB b n :=
  listB_sub (ha.least b cb hb.sub) (hb.least a ca ha.sub) n
theorem mark_sub {n k : Nat} {l : List Int} (h : inR n l) (hk : n ≤ k) : Sub (markE n l) (markE k l) ∧ Sub (markE k l) (markE n l) := by
  constructor
  · intro x hx
    obtain ⟨h1, h2⟩ := (markE_iff n l x).1 hx
    exact (markE_iff k l x).2 ⟨by omega, h2⟩
  · intro x hx
    obtain ⟨_, y, hy, e⟩ := (markE_iff k l x).1 hx
    have := h y hy
    exact (markE_iff n l x).2 ⟨by omega, y, hy, e⟩
theorem Mid.toS {log : List Ev} {l : List Int} {m : List Bool} (h : Mid log (markE log.length l) m) (hin : inR log.length l) (h60 : log.length ≤ 60) : MidS log (markE 60 l) m := by
  obtain ⟨h1, h2⟩ := mark_sub hin h60
  exact ⟨h2.trans h.sub, fun M hM hs => h.least M hM (h1.trans hs)⟩

/-- There is one list that is told of the least closed set. -/
theorem closeL_ex (log : List Ev) (ev : List Int) : ∃ L : List Nat, L.length ≤ log.length ∧ ∀ m, MidS log (markE 60 ev) m → ClosedS log m → listB m log.length = L := by
  by_cases h : ∃ m, MidS log (markE 60 ev) m ∧ ClosedS log m
  · obtain ⟨m0, h1, h2⟩ := h
    exact ⟨listB m0 log.length, listB_len _ _, fun m h3 h4 => midS_unique h3 h4 h1 h2 _⟩
  · exact ⟨[], by simp, fun m h1 h2 => absurd ⟨m, h1, h2⟩ h⟩

theorem row_slice {w : World} {B n : Nat} {v : Value} {xs : List Value} (h : w.ownsRow B 3 1 v n xs) : ∃ a c, v = .slice a n c := by
  rcases h.2 with ⟨rfl, rfl⟩ | ⟨g, cap, _, rfl, _⟩
  · exact ⟨none, 0, rfl⟩
  · exact ⟨_, cap, rfl⟩
/-- One answer of Close. -/
def ClP (L : List Nat) (x : Int) (w : World) (e : Ending) (w' : World) : Prop :=
  ∃ a c, e = .returned (.tuple #[.slice a L.length c, .int .i64 x]) ∧ Below w.heap.size w w' ∧ w'.ownsRow w.heap.size 3 1 (.slice a L.length c) L.length (intV L) ∧ (x ≠ 0 → a = none)
theorem clP_nil {x : Int} {w w' : World} {e : Ending} (he : e = .returned (.tuple #[.slice none 0 0, .int .i64 x])) (hb : Below w.heap.size w w') : ClP [] x w e w' :=
  ⟨none, 0, he, hb, World.ownsRow_nil _ _ _ _, fun _ => rfl⟩

theorem close_both (s sch : ByteArray) (hsch : sch.size ≤ maxLen) (ev : List Int) (hll : ev.length ≤ maxLen) : ∃ (L : List Nat) (x : Int), L.length ≤ 60 ∧
    (∀ (w : World) (a : Option Addr) (c n : Nat), n = ev.length → IntsAt w a ev → Calls Try.prog 28 #[.string s, .string sch, .slice a n c] w fun e w' => ClP L x w e w') ∧
    (∀ (w : World) (a : Option Addr) (c n : Nat), n = ev.length → IntsAt w a ev → Calls Try.prog 29 #[.string s, .string sch, .slice a n c] w fun e w' => ClP L x w e w') := by
  by_cases h : (ckP s).1 ≠ 0
  · refine ⟨[], (ckP s).1, by simp, fun w a c n hn _ => ?_, fun w a c n hn _ => ?_⟩
    · exact (close_bad s sch a n c _ h w (fun w => traceOf_err s sch w h)).mono fun e w' ⟨he, hb⟩ => clP_nil he hb
    · exact (refClose_err s sch a c n w h).mono fun e w' ⟨he, hb⟩ => clP_nil he hb
  · have h0 : (ckP s).1 = 0 := by omega
    cases hW : toLoop sch (beginW (thLoop s 0 0 [])) 0 with
    | none =>
      refine ⟨[], 5, by simp, fun w a c n hn _ => ?_, fun w a c n hn _ => ?_⟩
      · exact (close_bad s sch a n c 5 (by decide) w (fun w => traceOf_none s sch hsch w h0 hW)).mono fun e w' ⟨he, hb⟩ => clP_nil he hb
      · exact (refClose_none s sch a c n hsch w h0 hW).mono fun e w' ⟨he, hb⟩ => clP_nil he hb
    | some W =>
      have hsm := (toLoop_inv sch _ 0 _ W rfl (begin_inv s h0) hW).1.small
      by_cases hin : inR W.log.length ev
      · obtain ⟨L, hLl, hLe⟩ := closeL_ex W.log ev
        refine ⟨L, 0, Nat.le_trans hLl hsm, fun w a c n hn hA => ?_, fun w a c n hn hA => ?_⟩
        · subst hn
          refine (close_ok s sch a c ev hll hsch w hA h0 W hW).mono ?_
          rintro e w' ⟨hb, ⟨hno, _⟩ | ⟨_, g', c', m, h1, h2, _, he, ho⟩⟩
          · exact absurd hin hno
          · rw [hLe m h1 h2] at he ho
            exact ⟨_, c', he, hb, ho, fun hx => absurd rfl hx⟩
        · subst hn
          refine (refClose_ok s sch a c ev hll hsch w hA h0 W hW).mono ?_
          rintro e w' ⟨hb, ⟨hno, _⟩ | ⟨_, m, v, h1, h2, he, ho⟩⟩
          · exact absurd hin hno
          · have ho2 : w'.ownsRow w.heap.size 3 1 v (listB m W.log.length).length (intV (listB m W.log.length)) := ho
            rw [hLe m (h1.toS hin hsm) h2] at ho2
            obtain ⟨a', c', rfl⟩ := row_slice ho2
            exact ⟨a', c', he, hb, ho2, fun hx => absurd rfl hx⟩
      · refine ⟨[], 6, by simp, fun w a c n hn hA => ?_, fun w a c n hn hA => ?_⟩
        · subst hn
          refine (close_ok s sch a c ev hll hsch w hA h0 W hW).mono ?_
          rintro e w' ⟨hb, ⟨_, he⟩ | ⟨hi, _⟩⟩
          · exact clP_nil he hb
          · exact absurd hi hin
        · subst hn
          refine (refClose_ok s sch a c ev hll hsch w hA h0 W hW).mono ?_
          rintro e w' ⟨hb, ⟨_, he⟩ | ⟨hi, _⟩⟩
          · exact clP_nil he hb
          · exact absurd hi hin
end Go.Proofs.Ytfdbnilopfnifaa
