import Derived.Test.YtfdbnilopfnifaaT3
import Derived.Test.YtfdbnilopfnifaaE3
namespace Go.Proofs.Ytfdbnilopfnifaa
open Go.RowKit
attribute [local go_sem ↓] loadQ_fold storeQ_fold zeroQ_fold loadV_fold

set_option maxRecDepth 100000 in
set_option maxHeartbeats 2000000 in
theorem aheadT_any (g c : Nat) (Wn : Value) (l : List Mv) (w : World) (hE : MvsAt w g l) (j : Nat) (hj : j < l.length) (hl : l.length ≤ 60) (y : Int) (hy : y = j) :
    Calls Try.prog 91 #[.agg #[.slice (some ⟨g, 0, none⟩) l.length c, Wn], .int .i64 y] w fun e w' => e = .returned (.agg (setC (aheadS (ldL l) j))) ∧ Below w.heap.size w w' := by
  subst hy
  generalize hres : aheadS (ldL l) j = res
  have HR : Hid (aheadP (ldL l) j (zeroM60.set j true) = res) := hres
  clear hres
  have hz60 : zeroM60.length = 60 := rfl
  have s2 : SetIn (((w.alloc (.cells #[.slice (some ⟨g, 0, none⟩) l.length c, Wn] 104)).alloc (.cells (setC zeroM60) 145)).alloc (.cells (setC zeroM60) 145)) (w.heap.size + 2) zeroM60 := ⟨by simpa using heap_alloc_new ((w.alloc (.cells #[.slice (some ⟨g, 0, none⟩) l.length c, Wn] 104)).alloc (.cells (setC zeroM60) 145)) (.cells (setC zeroM60) 145), rfl⟩
  have s1 : SetIn (((w.alloc (.cells #[.slice (some ⟨g, 0, none⟩) l.length c, Wn] 104)).alloc (.cells (setC zeroM60) 145)).alloc (.cells (setC zeroM60) 145)) (w.heap.size + 1) zeroM60 := SetIn.old ⟨heap_alloc2_new _ _ _, rfl⟩ _
  have s0 : ∀ (i : Nat) (v : Value), #[.slice (some ⟨g, 0, none⟩) l.length c, Wn][i]? = some v → (((w.alloc (.cells #[.slice (some ⟨g, 0, none⟩) l.length c, Wn] 104)).alloc (.cells (setC zeroM60) 145)).alloc (.cells (setC zeroM60) 145)).cell? ⟨w.heap.size, i, none⟩ = some v := fun i v hv => cell_later ((Below.refl _ _).alloc (Nat.le_refl _) _) (cellB (heap_alloc2_old _ _ _) hv)
  have a0 : (((w.alloc (.cells #[.slice (some ⟨g, 0, none⟩) l.length c, Wn] 104)).alloc (.cells (setC zeroM60) 145)).alloc (.cells (setC zeroM60) 145)).cell? ⟨w.heap.size, 0, none⟩ = some (.slice (some ⟨g, 0, none⟩) l.length c) := s0 0 _ rfl
  have a1 : (((w.alloc (.cells #[.slice (some ⟨g, 0, none⟩) l.length c, Wn] 104)).alloc (.cells (setC zeroM60) 145)).alloc (.cells (setC zeroM60) 145)).cell? ⟨w.heap.size, 1, none⟩ = some Wn := s0 1 _ rfl
  have hB0 : Below w.heap.size w (((w.alloc (.cells #[.slice (some ⟨g, 0, none⟩) l.length c, Wn] 104)).alloc (.cells (setC zeroM60) 145)).alloc (.cells (setC zeroM60) 145)) := (two_new ((Below.refl _ _).alloc (Nat.le_refl _) _)).2.2.1
  have hst0 := storeQ_run s2 hz60
  have r2 := s2.setRow hz60
  have cj : (((((w.alloc (.cells #[.slice (some ⟨g, 0, none⟩) l.length c, Wn] 104)).alloc (.cells (setC zeroM60) 145)).alloc (.cells (setC zeroM60) 145)).setRow (w.heap.size + 2) (setC zeroM60))).cell? ⟨w.heap.size + 2, j, none⟩ = some (.bool false) := r2.cell (by rw [zeroM60, List.getElem?_replicate, if_pos (by omega)])
  have zj := r2.z j
  have j0 : (0 : Int) ≤ (j : Int) := by omega
  have j60 : (j : Int) < 60 := by omega
  clear s0
  go_enter Try.func91, Try.ntmps91
  go_wp2
  go_loopw [6] (fun x wr => ∃ (k : Nat) (m : List Bool), k ≤ j ∧ x = .int .i64 k ∧ Hid (aheadP (ldL l) k m = res) ∧ SetIn wr (w.heap.size + 2) m ∧ SetIn wr (w.heap.size + 1) zeroM60 ∧ wr.cell? ⟨w.heap.size, 0, none⟩ = some (.slice (some ⟨g, 0, none⟩) l.length c) ∧ wr.cell? ⟨w.heap.size, 1, none⟩ = some Wn ∧ Below w.heap.size w wr) (fun x _ => (intOf x).toNat)
  case atStart =>
    refine ⟨j, zeroM60.set j true, by omega, rfl, HR, r2.put j true, (s1.rowOther (by omega) _).other (by simp <;> omega) _, ?_, ?_, (below_setRow hB0 (by omega) _).setCell (by simp <;> omega) _⟩
    · rw [cell_put_other _ (by simp <;> omega), cell_setRow_other _ _ _ _ (show w.heap.size ≠ w.heap.size + 2 by omega)]; exact a0
    · rw [cell_put_other _ (by simp <;> omega), cell_setRow_other _ _ _ _ (show w.heap.size ≠ w.heap.size + 2 by omega)]; exact a1
  case round =>
    obtain ⟨k, m, hk, rfl, HE, t2, t1, t0, t0', hBr⟩ := hrel
    clear HR s1 s2 hB0 hst0 r2 cj zj a0 a1
    cases k with
    | zero =>
      have hres : res = m := by have h := HE.out; rw [aheadP] at h; exact h.symm
      subst hres
      have hld := t2.loadQ
      have hst := storeQ_run t1 t2.n
      have hfin := t1.setRow t2.n
      clear HE
      go_wp2
      exact bodyPost_ret (v := .agg (setC res)) (results_cell_row Try.results91 _ _ (w.heap.size + 1) _ _ _ _ rfl hfin.blk Try.underlying145 rfl (by rw [setC_size, t2.n]; exact info60)) rfl ⟨rfl, below_setRow hBr (by omega) _⟩
    | succ k =>
      obtain ⟨q, hq⟩ : ∃ q, m[k + 1]? = some q := ⟨m[k + 1]'(by rw [t2.n]; omega), by simp⟩
      have HE1 : Hid (aheadP (ldL l) k (if q = true then addL (ldL l) (k + 1) 0 m else m) = res) := by
        have h := HE.out
        rw [aheadP, hq, Option.getD_some] at h
        exact h
      have cq := t2.cell hq
      have k0 : (0 : Int) ≤ ((k + 1 : Nat) : Int) := by omega
      have k0' : (0 : Int) < ((k + 1 : Nat) : Int) := by omega
      have k60 : ((k + 1 : Nat) : Int) < 60 := by omega
      clear HE hq
      cases q with
      | true =>
        rw [if_pos rfl] at HE1
        have hA := addLeading_any g c Wn l m t2.n wr (hE.below hBr) (k + 1) (by omega) hl _ rfl
        have hln : (addL (ldL l) (k + 1) 0 m).length = 60 := by rw [addL_len _ _ _ _ _ rfl]; exact t2.n
        generalize addL (ldL l) (k + 1) 0 m = m' at *
        have hld := t2.loadQ
        go_wp2_with (first | (go_at_call 113; refine hA.mono ?_; rintro e w2 ⟨rfl, hb2⟩; have u2 := t2.below hb2; have hst := storeQ_run u2 hln))
        go_roundw
        case rel =>
          refine ⟨k, m', by omega, rfl, HE1, u2.setRow hln, (t1.below hb2).rowOther (by omega) _, ?_, ?_, below_setRow (hBr.trans (hb2.mono hBr.size)) (by omega) _⟩
          · rw [cell_setRow_other _ _ _ _ (show w.heap.size ≠ w.heap.size + 2 by omega)]; exact cell_later hb2 t0
          · rw [cell_setRow_other _ _ _ _ (show w.heap.size ≠ w.heap.size + 2 by omega)]; exact cell_later hb2 t0'
        case measure => (simp [intOf])
      | false =>
        rw [if_neg (by simp)] at HE1
        go_wp2
        go_roundw
        case rel => exact ⟨k, m, by omega, rfl, HE1, t2, t1, t0, t0', hBr⟩
        case measure => (simp [intOf])

/-- What the program's Before answers of two numbers. -/
def bfL (l : List Mv) (i j : Int) : Bool := decide (0 ≤ i ∧ i < j ∧ j < l.length) && (aheadS (ldL l) j.toNat)[i.toNat]?.getD false

set_option maxRecDepth 100000 in
set_option maxHeartbeats 2000000 in
theorem BeforeT_any (g c : Nat) (Wn : Value) (l : List Mv) (w : World) (hE : MvsAt w g l) (hl : l.length ≤ 60) (i j : Int) :
    Calls Try.prog 61 #[.agg #[.slice (some ⟨g, 0, none⟩) l.length c, Wn], .int .i64 i, .int .i64 j] w fun e w' => e = .returned (.bool (bfL l i j)) ∧ Below w.heap.size w w' := by
  have hH := fun w => Has_any (some ⟨g, 0, none⟩) c l.length Wn w j
  have hB0 := (Below.refl w.heap.size w).alloc (Nat.le_refl _) (.cells #[.slice (some ⟨g, 0, none⟩) l.length c, Wn] 104)
  by_cases h0 : i < 0
  · have hr : bfL l i j = false := by rw [bfL, decide_eq_false (by omega)]; rfl
    rw [hr]; clear hr
    go_enter Try.func61, Try.ntmps61
    go_wp2
    go_ret
    exact ⟨rfl, hB0⟩
  by_cases h1 : j ≤ i
  · have hr : bfL l i j = false := by rw [bfL, decide_eq_false (by omega)]; rfl
    rw [hr]; clear hr
    go_enter Try.func61, Try.ntmps61
    go_wp2
    go_ret
    exact ⟨rfl, hB0⟩
  by_cases h2 : j < l.length
  · obtain ⟨a, rfl⟩ : ∃ a : Nat, i = a := ⟨i.toNat, by omega⟩
    obtain ⟨b, rfl⟩ : ∃ b : Nat, j = b := ⟨j.toNat, by omega⟩
    have hr : bfL l a b = (aheadS (ldL l) b)[a]?.getD false := by rw [bfL, decide_eq_true (by omega), Bool.true_and, Int.toNat_natCast, Int.toNat_natCast]
    rw [hr]; clear hr
    rw [decide_eq_true (by omega)] at hH
    have hA := fun w' hw => aheadT_any g c Wn l w' (MvsAt.below (w' := w') hE hw) b (by omega) hl _ rfl
    have hln := aheadS_len (ldL l) b
    generalize aheadS (ldL l) b = m at *
    obtain ⟨q, hq⟩ : ∃ q, m[a]? = some q := ⟨m[a]'(by rw [hln]; omega), by simp⟩
    have hz60 : zeroM60.length = 60 := rfl
    have a0 : (0 : Int) ≤ (a : Int) := by omega
    have a60 : (a : Int) < 60 := by omega
    rw [hq, Option.getD_some]
    go_enter Try.func61, Try.ntmps61
    go_wp2_with (first
      | (go_at_call 60; refine (hH _).mono ?_; rintro e w1 ⟨rfl, hb⟩; have hB1 := hB0.trans (hb.mono hB0.size); obtain ⟨hc, _, _, _⟩ := below_new hb; have q0 : w1.cell? ⟨w.heap.size, 0, none⟩ = some (.slice (some ⟨g, 0, none⟩) l.length c) := hc 0 _ rfl; have q1 : w1.cell? ⟨w.heap.size, 1, none⟩ = some Wn := hc 1 _ rfl; clear hc)
      | (go_at_call 91; refine (hA _ hB1).mono ?_; rintro e w2 ⟨rfl, hb2⟩; have hs2 := SetIn.new w2 hz60; have hst := storeQ_run hs2 hln; have hr2 := hs2.setRow hln; have cq := hr2.cell hq))
    go_ret
    exact ⟨rfl, below_setRow ((hB1.trans (hb2.mono hB1.size)).alloc (Nat.le_trans hB1.size hb2.size) _) (Nat.le_trans hB1.size hb2.size) _⟩
  · have hr : bfL l i j = false := by rw [bfL, decide_eq_false (by omega)]; rfl
    rw [hr]; clear hr
    rw [decide_eq_false (by omega)] at hH
    have h0' : ¬ (i < 0) := h0
    go_enter Try.func61, Try.ntmps61
    go_wp2_with (first
      | (go_at_call 60; refine (hH _).mono ?_; rintro e w1 ⟨rfl, hb⟩; have hB1 := hB0.trans (hb.mono hB0.size)))
    go_ret
    exact ⟨rfl, hB1⟩
end Go.Proofs.Ytfdbnilopfnifaa
namespace Go.Proofs.Ytfdbnilopfnifaa
open Go.RowKit

/-- What the join of thread u is at. -/
def lookJoin (L : List (List Stp)) (s : MS) (u : Nat) : Int × Int :=
  if s.st[u]? = some true ∧ (L[u]?.getD []).length ≤ s.pl[u]?.getD 0 then (1, -1) else (3, u)

set_option maxHeartbeats 1000000 in
theorem lookAtJoin_any (V : Value) (L : List (List Stp)) (s : MS) (ok : s.Ok) (w : World) (B : Nat) (hp : ProgIn w B V L) (hL : L.length ≤ 5) (u : Nat) (hu : u < L.length) (i : Int) (hi : i = u) :
    Calls Try.prog 124 #[.agg #[V], .agg s.cells, .int .i64 i] w fun e w' => e = .returned (pairV (lookJoin L s u)) ∧ Below w.heap.size w w' := by
  subst hi
  have hp2 := (hp.alloc (.cells #[V] 72)).alloc (.cells s.cells 95)
  have hS := fun w' hw => Steps_in V L w' B (ProgIn.below hp2 (w' := w') hw) u hu _ rfl
  obtain ⟨b, hb⟩ : ∃ b, s.st[u]? = some b := ⟨s.st[u]'(by rw [ok.n1]; omega), by simp⟩
  obtain ⟨n, hn⟩ : ∃ n, s.pl[u]? = some n := ⟨s.pl[u]'(by rw [ok.n2]; omega), by simp⟩
  have hst : StIn ((w.alloc (.cells #[V] 72)).alloc (.cells s.cells 95)) (w.heap.size + 1) s := ⟨heap_alloc2_new _ _ _, ok⟩
  have c1 := hst.st hb
  have c2 := hst.pl hn
  have hj : lookJoin L s u = if b = true ∧ L[u].length ≤ n then (1, -1) else (3, (u : Int)) := by
    simp [lookJoin, hb, hn, hu]
  have hc0 : ((w.alloc (.cells #[V] 72)).alloc (.cells s.cells 95)).cell? ⟨w.heap.size, 0, none⟩ = some V := cellB (heap_alloc2_old _ _ _) rfl
  rw [hj]
  clear hj hn hb hp2
  generalize L[u].length = len at *
  have hu5 : u < 5 := by omega
  have u0 : (0 : Int) ≤ (u : Int) := by omega
  have u5 : (u : Int) < 5 := by omega
  cases b with
  | true =>
    by_cases h : len ≤ n
    · rw [if_pos ⟨rfl, h⟩]
      go_enter Try.func124, Try.ntmps124
      go_wp2
      go_region_held3 (fun w' => w'.cell? ⟨w.heap.size + 1, u, none⟩ = some (.bool true) ∧ w'.cell? ⟨w.heap.size + 1, 5 + u, none⟩ = some (.int .i64 n) ∧ w'.cell? ⟨w.heap.size, 0, none⟩ = some V) (first | exact ⟨c1, c2, hc0⟩ | exact ⟨cell_later hb1 c1, cell_later hb1 c2, cell_later hb1 hc0⟩ | go_keep)
        (first | (go_at_call 109; refine (hS _ (by first | exact Below.refl _ _ | exact (Below.refl _ _).drew | exact below_drewN _ _)).mono ?_; rintro e w1 ⟨rfl, hb⟩; have hb1 : Below ((w.alloc (.cells #[V] 72)).alloc (.cells s.cells 95)).heap.size ((w.alloc (.cells #[V] 72)).alloc (.cells s.cells 95)) w1 := (by first | exact hb | exact below_of_drewN (n := 1) hb | exact below_of_drewN hb); clear hb))
      go_wp2
      go_ret2
      exact ⟨rfl, (two_new hb1).2.2.1⟩
    · rw [if_neg (fun hh => h hh.2)]
      go_enter Try.func124, Try.ntmps124
      go_wp2
      go_region_held3 (fun w' => w'.cell? ⟨w.heap.size + 1, u, none⟩ = some (.bool true) ∧ w'.cell? ⟨w.heap.size + 1, 5 + u, none⟩ = some (.int .i64 n) ∧ w'.cell? ⟨w.heap.size, 0, none⟩ = some V) (first | exact ⟨c1, c2, hc0⟩ | exact ⟨cell_later hb1 c1, cell_later hb1 c2, cell_later hb1 hc0⟩ | go_keep)
        (first | (go_at_call 109; refine (hS _ (by first | exact Below.refl _ _ | exact (Below.refl _ _).drew | exact below_drewN _ _)).mono ?_; rintro e w1 ⟨rfl, hb⟩; have hb1 : Below ((w.alloc (.cells #[V] 72)).alloc (.cells s.cells 95)).heap.size ((w.alloc (.cells #[V] 72)).alloc (.cells s.cells 95)) w1 := (by first | exact hb | exact below_of_drewN (n := 1) hb | exact below_of_drewN hb); clear hb))
      go_wp2
      go_ret2
      exact ⟨rfl, (two_new hb1).2.2.1⟩
  | false =>
    rw [if_neg (fun hh => by simp at hh)]
    go_enter Try.func124, Try.ntmps124
    go_wp2
    go_quiet (fail)
    go_wp2
    go_ret2
    exact ⟨rfl, (two_new (below_drewN _ _)).2.2.1⟩
end Go.Proofs.Ytfdbnilopfnifaa
namespace Go.Proofs.Ytfdbnilopfnifaa
open Go.RowKit

/-- A step within its bounds, in a program of n threads. -/
structure SOk (n : Nat) (x : Stp) : Prop where
  w0 : 0 ≤ x.which
  wl : x.which < 6
  wt : x.kind = 6 ∨ x.kind = 7 → x.which < n
  c0 : 0 ≤ x.count
  c9 : x.count ≤ 9

def lookStp (L : List (List Stp)) (s : MS) (t : Nat) (x : Stp) : Int × Int :=
  if x.kind = 1 then lookTake (s.ow[x.which.toNat]?.getD none) t
  else if x.kind = 2 then fltIf (decide (s.ow[x.which.toNat]?.getD none ≠ some t))
  else if x.kind = 6 then fltIf (s.st[x.which.toNat]?.getD false)
  else if x.kind = 7 then lookJoin L s x.which.toNat
  else (1, -1)
def lookM (L : List (List Stp)) (s : MS) (t : Nat) : Int × Int :=
  if s.st[t]? = some true then
    match (L[t]?.getD [])[s.pl[t]?.getD 0]? with
    | none => (4, -1)
    | some x => lookStp L s t x
  else (0, -1)

abbrev boxes (w : World) (V : Value) (s : MS) : World := (w.alloc (.cells #[V] 72)).alloc (.cells s.cells 95)

set_option maxHeartbeats 1000000 in
theorem Look_out (V : Value) (L : List (List Stp)) (s : MS) (w : World) (B : Nat) (hp : ProgIn w B V L) (i : Int) (hi : i < 0 ∨ (L.length : Int) ≤ i) :
    Calls Try.prog 106 #[.agg #[V], .agg s.cells, .int .i64 i] w fun e w' => e = .returned (pairV (0, -1)) ∧ Below w.heap.size w w' := by
  have hp2 := (hp.alloc (.cells #[V] 72)).alloc (.cells s.cells 95)
  have hT := Threads_any V L _ B hp2
  clear hp2 hp
  generalize L.length = tl at *
  by_cases h0 : i < 0
  · clear hi
    go_enter Try.func106, Try.ntmps106
    go_wp2
    go_ret2
    exact ⟨rfl, (two_new (Below.refl _ _)).2.2.1⟩
  · have h1 : (tl : Int) ≤ i := by omega
    clear hi
    go_enter Try.func106, Try.ntmps106
    go_wp2_with (first | (go_at_call 85; refine hT.mono ?_; rintro e w1 ⟨rfl, hb⟩))
    go_ret2
    exact ⟨rfl, (two_new hb).2.2.1⟩

set_option maxHeartbeats 1000000 in
theorem Look_unborn (V : Value) (L : List (List Stp)) (s : MS) (ok : s.Ok) (w : World) (B : Nat) (hp : ProgIn w B V L) (hL : L.length ≤ 5) (t : Nat) (ht : t < L.length) (i : Int) (hi : i = t) (hs : s.st[t]? = some false) :
    Calls Try.prog 106 #[.agg #[V], .agg s.cells, .int .i64 i] w fun e w' => e = .returned (pairV (0, -1)) ∧ Below w.heap.size w w' := by
  subst hi
  have hp2 := (hp.alloc (.cells #[V] 72)).alloc (.cells s.cells 95)
  have hT := Threads_any V L _ B hp2
  have hst : StIn (boxes w V s) (w.heap.size + 1) s := ⟨heap_alloc2_new _ _ _, ok⟩
  have c1 := hst.st hs
  have t0 : (0 : Int) ≤ (t : Int) := by omega
  have t5 : (t : Int) < 5 := by omega
  have t5' : t < 5 := by omega
  clear hp2 hp hs hst hL
  generalize L.length = tl at *
  go_enter Try.func106, Try.ntmps106
  go_wp2_with (first | (go_at_call 85; refine hT.mono ?_; rintro e w1 ⟨rfl, hb⟩; have d1 := cell_later hb c1))
  go_ret2
  exact ⟨rfl, (two_new hb).2.2.1⟩
end Go.Proofs.Ytfdbnilopfnifaa
