import Derived.Test.YtdfndcbakcmgiabDoorU11
import Derived.Test.YtdfndcbakcmgiabDoorV1
namespace Go.Proofs.YtdfndcbakcmgiabDoor
open Go.RowKit

theorem keep_any (f : Nat) (a : Option Addr) (ca most : Nat) (la : List Aq) (hok : ∀ x ∈ la, x.Ok) (hm100 : most ≤ 1000) (w0 w : World) (v : Value) (st : Fd) (h : FI w0 w f a la.length ca most v st) (ha : AqsAt w a la)
    (p : List Nat) (hp0 : p ≠ []) (hp5 : p.length ≤ 5) (hin : ∀ i ∈ p, i < la.length) (cs : Array Value) (hcs : cs = chC p) :
    Calls Tryd.prog 62 #[.pointer (some ⟨f, 0, none⟩), .agg cs] w fun e w' => e = .returned (.tuple #[]) ∧ ∃ v', FI w0 w' f a la.length ca most v' (keepS la most st p) ∧ Kp f v v' w w' := by
  obtain ⟨m, hm⟩ : ∃ m, p.length = m + 1 := ⟨p.length - 1, by have := List.length_pos_iff.2 hp0; omega⟩
  unfold keepS
  cases hno : shareB [(aqOf la (pAt p (p.length - 1))).k] (aqOf la (pAt p 0)).hl with
  | false =>
    rw [if_neg (by decide)]
    exact (keep_no f a ca most la hok w0 w v st h ha p m hm (by omega) hin cs hcs hno).mono fun _ _ ⟨h1, h2, h3⟩ => ⟨h1, v, h2, h3⟩
  | true =>
    rw [if_pos rfl]
    by_cases hmost : most ≤ st.1.length
    · rw [if_pos hmost]
      exact (keep_full f a ca most la hok w0 w v st h ha p m hm (by omega) hin cs hcs hno hmost).mono fun _ _ ⟨h1, h2, h3⟩ => ⟨h1, v, h2, h3⟩
    · rw [if_neg hmost]
      exact keep_add f a ca most la hok w0 w v st h ha p m hm (by omega) hin cs hcs hno (by omega) hm100

/-! A fold over the numbers below n, from k on. -/
def foldR (s : Fd → Nat → Fd) (k n : Nat) (st : Fd) : Fd := (List.range' k (n - k)).foldl s st
theorem foldR_all (s : Fd → Nat → Fd) (n : Nat) (st : Fd) : (List.range n).foldl s st = foldR s 0 n st := by rw [foldR, List.range_eq_range', Nat.sub_zero]
theorem foldR_end (s : Fd → Nat → Fd) (n : Nat) (st : Fd) : foldR s n n st = st := by rw [foldR, Nat.sub_self]; rfl
theorem foldR_step (s : Fd → Nat → Fd) {k n : Nat} (h : k < n) (st : Fd) : foldR s k n st = foldR s (k + 1) n (s st k) := by
  rw [foldR, foldR, show n - k = (n - (k + 1)) + 1 by omega, List.range'_succ, List.foldl_cons]
theorem foldl_stay (s : Fd → Nat → Fd) (st : Fd) (h : ∀ k, s st k = st) : ∀ (l : List Nat), l.foldl s st = st
  | [] => rfl
  | k :: l => by rw [List.foldl_cons, h k, foldl_stay s st h l]
abbrev extF (la : List Aq) (most d : Nat) (p : List Nat) : Fd → Nat → Fd := fun st k => if st.2 = true then st else if fitsB la p k = true then extS la most d (p ++ [k]) st else st
theorem extF_more {la : List Aq} {most d : Nat} {p : List Nat} {st : Fd} (h : st.2 = true) (k n : Nat) : foldR (extF la most d p) k n st = st := foldl_stay _ _ (fun k => by simp only [extF, if_pos h]) _

theorem chC_push : ∀ (p : List Nat) (k : Nat), p.length < 5 → ((chC p).setIfInBounds p.length (.int .i64 (k : Int))).setIfInBounds 5 (.int .i64 ((p.length : Int) + 1)) = chC (p ++ [k])
  | [], _, _ => rfl
  | [_], _, _ => rfl
  | [_, _], _, _ => rfl
  | [_, _, _], _, _ => rfl
  | [_, _, _, _], _, _ => rfl
  | _ :: _ :: _ :: _ :: _ :: _, _, h => by simp at h; omega

def ExtAt (f : Nat) (a : Option Addr) (ca most : Nat) (la : List Aq) (w0 : World) (d : Nat) : Prop :=
  ∀ (p : List Nat) (n : Nat), n = p.length + d → n ≤ 5 → 1 ≤ n → (∀ i ∈ p, i < la.length) → ∀ (w : World) (v : Value) (st : Fd), FI w0 w f a la.length ca most v st → ∀ cs, cs = chC p →
    Calls Tryd.prog 47 #[.pointer (some ⟨f, 0, none⟩), .agg cs, .int .i64 (n : Int)] w fun e w' => e = .returned (.tuple #[]) ∧ ∃ v', FI w0 w' f a la.length ca most v' (extS la most d p st) ∧ Kp f v v' w w'

set_option maxRecDepth 100000 in
set_option maxHeartbeats 1000000 in
theorem ext_zero (f : Nat) (a : Option Addr) (ca most : Nat) (la : List Aq) (hok : ∀ x ∈ la, x.Ok) (hm100 : most ≤ 1000) (w0 : World) (hf : Hid (f = w0.heap.size)) (ha0 : AqsAt w0 a la) : ExtAt f a ca most la w0 0 := by
  intro p n hn hn5 hn1 hin w v st h cs hcs
  subst hcs
  rw [Nat.add_zero] at hn
  have hB1 : Below w.heap.size w (chBox w p) := (Below.refl _ _).alloc (Nat.le_refl _) _
  have pA : ∀ i v, (chC p)[i]? = some v → (chBox w p).cell? ⟨w.heap.size, i, none⟩ = some v := fun i v hv => cellB (heap_alloc_new _ _) hv
  have q0 := pA 0 _ (chC_at p 0 (by omega))
  have q1 := pA 1 _ (chC_at p 1 (by omega))
  have q2 := pA 2 _ (chC_at p 2 (by omega))
  have q3 := pA 3 _ (chC_at p 3 (by omega))
  have q4 := pA 4 _ (chC_at p 4 (by omega))
  have q5 := pA 5 (.int .i64 p.length) rfl
  have h1 := h.later hB1
  have ha1 : AqsAt (chBox w p) a la := ha0.below (by rw [← hf.out]; exact h1.below)
  have hK := keep_any f a ca most la hok hm100 w0 (chBox w p) v st h1 ha1 p (by intro e; rw [e] at hn; simp at hn; omega) (by omega) hin _ rfl
  subst hn
  have hchC : chC p = #[.int .i64 (pAt p 0), .int .i64 (pAt p 1), .int .i64 (pAt p 2), .int .i64 (pAt p 3), .int .i64 (pAt p 4), .int .i64 p.length] := rfl
  rw [hchC] at hK ⊢
  generalize hX : chBox w p = X at *
  have HX : Hid (w.alloc (.cells #[.int .i64 (pAt p 0), .int .i64 (pAt p 1), .int .i64 (pAt p 2), .int .i64 (pAt p 3), .int .i64 (pAt p 4), .int .i64 p.length] 95) = X) := hX
  clear hX hchC pA
  go_enter Tryd.func47, Tryd.ntmps47
  go_upto_region 1 with fail
  rw [HX.out]
  go_wp2_with (first | (go_at_call 62; refine hK.mono ?_; rintro e w3 ⟨rfl, v3, h3, k3⟩))
  (try simp only [Exit.inBlock, Exit.then])
  refine bodyPost_ret (results_none rfl _ _ _) rfl ?_
  exact ⟨rfl, v3, h3, (Kp.ofBelow hB1).trans k3⟩

set_option maxRecDepth 100000 in
set_option maxHeartbeats 1000000 in
theorem ext_succ (f : Nat) (a : Option Addr) (ca most : Nat) (la : List Aq) (hok : ∀ x ∈ la, x.Ok) (hla : la.length ≤ 100) (w0 : World) (hf : Hid (f = w0.heap.size)) (ha0 : AqsAt w0 a la) (d : Nat) (ih : ExtAt f a ca most la w0 d) : ExtAt f a ca most la w0 (d + 1) := by
  intro p n hn hn5 hn1 hin w v st h cs hcs
  subst hcs
  have hB1 : Below w.heap.size w (chBox w p) := (Below.refl _ _).alloc (Nat.le_refl _) _
  have hbox : (chBox w p).heap[w.heap.size]? = some (.cells (chC p) 95) := heap_alloc_new _ _
  have h1 := h.later hB1
  have hs1 : w.heap.size < (chBox w p).heap.size := by simp
  have p5 : (chBox w p).cell? ⟨w.heap.size, 5, none⟩ = some (.int .i64 p.length) := cellB (heap_alloc_new _ _) rfl
  have hvb : some w.heap.size ≠ v.ownBlock := fun hh => by
    have := (World.ownsRow.lt h.row w.heap.size hh.symm).2
    omega
  have hfb : w.heap.size ≠ f := by have := h.top; omega
  generalize hR : extS la most (d + 1) p st = R
  have HR : Hid (foldR (extF la most d p) 0 la.length st = R) := by rw [Hid, ← hR, extS, foldR_all]
  clear hR
  have hchC : chC p = #[.int .i64 (pAt p 0), .int .i64 (pAt p 1), .int .i64 (pAt p 2), .int .i64 (pAt p 3), .int .i64 (pAt p 4), .int .i64 p.length] := rfl
  have HF := fun w' h0 ha' k hk => fits_any f a ca la hok w' h0 ha' p (by omega) hin k hk _ rfl _ rfl
  rw [hchC] at HF ⊢
  generalize hX : chBox w p = X at *
  have HX : Hid (w.alloc (.cells #[.int .i64 (pAt p 0), .int .i64 (pAt p 1), .int .i64 (pAt p 2), .int .i64 (pAt p 3), .int .i64 (pAt p 4), .int .i64 p.length] 95) = X) := hX
  have hge : decide ((n : Int) ≤ (p.length : Int)) = false := decide_eq_false (by omega)
  have hge3 : decide (n ≤ p.length) = false := decide_eq_false (by omega)
  have HBX : Hid (∀ w' v', Kp f v v' X w' → w'.heap[w.heap.size]? = some (.cells (chC p) 95)) := fun w' v' k => by rw [k.blk _ hs1 hfb hvb]; exact hbox
  have HN : Hid (n = p.length + (d + 1)) := hn
  clear hX hchC hn hbox
  go_enter Tryd.func47, Tryd.ntmps47
  go_upto_region 1 with fail
  rw [HX.out]
  go_wp2
  go_loopw [6] (fun y wr => ∃ k : Nat, k ≤ la.length ∧ y = .int .i64 (k : Int) ∧ ∃ v1 st1, FI w0 wr f a la.length ca most v1 st1 ∧ Kp f v v1 X wr ∧ Hid (foldR (extF la most d p) k la.length st1 = R)) (fun y _ => la.length - (intOf y).toNat)
  case atStart => exact ⟨0, Nat.zero_le _, rfl, v, st, h1, Kp.ofBelow (Below.refl _ _), HR⟩
  case round =>
    obtain ⟨k, hk, rfl, v1, st1, h2, k2, HS⟩ := hrel
    have hbx := HBX.out wr v1 k2
    have f0 : wr.cell? ⟨f, 0, none⟩ = some (.slice a la.length ca) := cellB h2.blk rfl
    have f3 : wr.cell? ⟨f, 3, none⟩ = some (.bool st1.2) := cellB h2.blk rfl
    have k0 : (0 : Int) ≤ (k : Int) := by omega
    by_cases hkl : k < la.length
    · have kl : (k : Int) < (la.length : Int) := by omega
      cases hmo : st1.2 with
      | true =>
        rw [hmo] at f3
        have hRe : R = st1 := by rw [← HS.out, extF_more hmo]
        subst hRe
        clear HS HF HBX
        go_wp2
        go_end0
        exact ⟨rfl, v1, h2, (Kp.ofBelow hB1).trans k2⟩
      | false =>
        rw [hmo] at f3
        have HS2 : Hid (foldR (extF la most d p) (k + 1) la.length (if fitsB la p k = true then extS la most d (p ++ [k]) st1 else st1) = R) := by
          rw [Hid, ← HS.out, foldR_step _ hkl, show extF la most d p st1 k = (if st1.2 = true then st1 else if fitsB la p k = true then extS la most d (p ++ [k]) st1 else st1) from rfl, if_neg (show ¬ st1.2 = true by rw [hmo]; decide)]
        have haR : AqsAt wr a la := ha0.below (by rw [← hf.out]; exact h2.below)
        have c0 : wr.cell? ⟨w.heap.size, 0, none⟩ = some (.int .i64 (pAt p 0)) := cellB hbx rfl
        have c1 : wr.cell? ⟨w.heap.size, 1, none⟩ = some (.int .i64 (pAt p 1)) := cellB hbx rfl
        have c2 : wr.cell? ⟨w.heap.size, 2, none⟩ = some (.int .i64 (pAt p 2)) := cellB hbx rfl
        have c3 : wr.cell? ⟨w.heap.size, 3, none⟩ = some (.int .i64 (pAt p 3)) := cellB hbx rfl
        have c4 : wr.cell? ⟨w.heap.size, 4, none⟩ = some (.int .i64 (pAt p 4)) := cellB hbx rfl
        have c5 : wr.cell? ⟨w.heap.size, 5, none⟩ = some (.int .i64 p.length) := cellB hbx rfl
        have hF := HF wr f0 haR k hkl
        clear HS HF
        cases hfit : fitsB la p k with
        | false =>
          rw [hfit] at hF
          rw [hfit, if_neg (by decide)] at HS2
          go_wp2_with (first | (go_at_call 63; refine hF.mono ?_; rintro e w3 ⟨rfl, hb3⟩))
          go_roundw
          case rel => exact ⟨k + 1, by omega, by go_num, v1, st1, h2.later hb3, k2.trans (Kp.ofBelow hb3), HS2⟩
          case measure => (simp [intOf] <;> omega)
        | true =>
          rw [hfit] at hF
          rw [hfit, if_pos rfl] at HS2
          have m0 : (0 : Int) ≤ (p.length : Int) := by omega
          have m5 : (p.length : Int) < 5 := by have := HN.out; omega
          go_upto_region 7 with (first | (go_at_call 63; refine hF.mono ?_; rintro e w3 ⟨rfl, hb3⟩))
          have h3 := h2.later hb3
          have k3 := k2.trans (Kp.ofBelow hb3)
          have q0 := cell_later hb3 c0
          have q1 := cell_later hb3 c1
          have q2 := cell_later hb3 c2
          have q3 := cell_later hb3 c3
          have q4 := cell_later hb3 c4
          have q5 := cell_later hb3 c5
          have hYB : Below w3.heap.size w3 (chBox w3 p) := (Below.refl _ _).alloc (Nat.le_refl _) _
          have t5 := cell_later hYB q5
          have h4 := h3.later hYB
          have k4 := k3.trans (Kp.ofBelow (f := f) (v := v1) hYB)
          have hY : (chBox w3 p).heap[w3.heap.size]? = some (.cells (chC p) 95) := heap_alloc_new _ _
          have hYs : w3.heap.size < (chBox w3 p).heap.size := by simp
          have hp5 : p.length < 5 := by have := HN.out; omega
          have hch3 : chC p = #[.int .i64 (pAt p 0), .int .i64 (pAt p 1), .int .i64 (pAt p 2), .int .i64 (pAt p 3), .int .i64 (pAt p 4), .int .i64 p.length] := rfl
          generalize hYe : chBox w3 p = Y at *
          have HY : Hid (w3.alloc (.cells #[.int .i64 (pAt p 0), .int .i64 (pAt p 1), .int .i64 (pAt p 2), .int .i64 (pAt p 3), .int .i64 (pAt p 4), .int .i64 p.length] 95) = Y) := hYe
          have hY1 := heap_setCell_same Y w3.heap.size p.length _ _ (.int .i64 (k : Int)) hY
          have hY2 := heap_setCell_same _ w3.heap.size 5 _ _ (.int .i64 ((p.length : Int) + 1)) hY1
          rw [chC_push p k hp5] at hY2
          have y0 : Y.cell? ⟨w3.heap.size, p.length, none⟩ = some (.int .i64 (pAt p p.length)) := cellB hY (chC_at p _ hp5)
          have yz : Y.frozen? ⟨w3.heap.size, p.length, none⟩ = false := frozen_of_row _ _ _ _ _ hY
          have u5 : (Y.setCell ⟨w3.heap.size, p.length, none⟩ (.int .i64 (k : Int))).cell? ⟨w3.heap.size, 5, none⟩ = some (.int .i64 (p.length : Int)) := cellB hY1 (by rw [Array.getElem?_setIfInBounds_ne (by omega)]; rfl)
          have uz : (Y.setCell ⟨w3.heap.size, p.length, none⟩ (.int .i64 (k : Int))).frozen? ⟨w3.heap.size, 5, none⟩ = false := frozen_of_row _ _ _ _ _ hY1
          have hZB : Below w3.heap.size w3 ((Y.setCell ⟨w3.heap.size, p.length, none⟩ (.int .i64 (k : Int))).setCell ⟨w3.heap.size, 5, none⟩ (.int .i64 ((p.length : Int) + 1))) := (hYB.setCell (Nat.le_refl _) _).setCell (Nat.le_refl _) _
          have hin2 : ∀ i ∈ p ++ [k], i < la.length := fun i hi => by
            rcases List.mem_append.1 hi with hi | hi
            · exact hin i hi
            · rw [List.mem_singleton.1 hi]; exact hkl
          have hC := ih (p ++ [k]) n (by rw [HN.out, List.length_append]; simp; omega) hn5 hn1 hin2 _ v1 st1 (h3.later hZB) _ rfl
          generalize hp' : p ++ [k] = p' at *
          have z0 := cellB hY2 (show (chC p')[0]? = some (.int .i64 (pAt p' 0)) from rfl)
          have z1 := cellB hY2 (show (chC p')[1]? = some (.int .i64 (pAt p' 1)) from rfl)
          have z2 := cellB hY2 (show (chC p')[2]? = some (.int .i64 (pAt p' 2)) from rfl)
          have z3 := cellB hY2 (show (chC p')[3]? = some (.int .i64 (pAt p' 3)) from rfl)
          have z4 := cellB hY2 (show (chC p')[4]? = some (.int .i64 (pAt p' 4)) from rfl)
          have z5 := cellB hY2 (show (chC p')[5]? = some (.int .i64 p'.length) from rfl)
          unfold chC at hC
          have k5 := k3.trans (Kp.ofBelow (f := f) (v := v1) hZB)
          clear c0 c1 c2 c3 c4 c5 f0 f3 hF hbx hYe hY hY1 hY2 hch3 hp' h4 k4 hZB ih HR
          go_upto_region 8 with fail
          rw [HY.out]
          go_wp2_with (first | (go_at_call 47; refine hC.mono ?_; rintro e w6 ⟨rfl, v6, h6, k6⟩))
          go_roundw
          case rel => exact ⟨k + 1, by omega, by go_num, v6, _, h6, k5.trans k6, HS2⟩
          case measure => (simp [intOf] <;> omega)
    · have kl : ¬ (k : Int) < (la.length : Int) := by omega
      have hRe : R = st1 := by rw [← HS.out, show k = la.length by omega, foldR_end]
      subst hRe
      clear HS HF HBX
      go_wp2
      go_end0
      exact ⟨rfl, v1, h2, (Kp.ofBelow hB1).trans k2⟩
end Go.Proofs.YtdfndcbakcmgiabDoor
namespace Go.Proofs.YtdfndcbakcmgiabDoor
open Go.RowKit

theorem ext_any (f : Nat) (a : Option Addr) (ca most : Nat) (la : List Aq) (hok : ∀ x ∈ la, x.Ok) (hla : la.length ≤ 100) (hm100 : most ≤ 1000) (w0 : World) (hf : Hid (f = w0.heap.size)) (ha0 : AqsAt w0 a la) : ∀ d, ExtAt f a ca most la w0 d
  | 0 => ext_zero f a ca most la hok hm100 w0 hf ha0
  | d + 1 => ext_succ f a ca most la hok hla w0 hf ha0 d (ext_any f a ca most la hok hla hm100 w0 hf ha0 d)
theorem chC_nil : chC [] = #[.int .i64 0, .int .i64 0, .int .i64 0, .int .i64 0, .int .i64 0, .int .i64 0] := rfl

set_option maxRecDepth 100000 in
set_option maxHeartbeats 8000000 in
theorem find_any (a : Option Addr) (ca most : Nat) (la : List Aq) (hok : ∀ x ∈ la, x.Ok) (hla : la.length ≤ 100) (hm100 : most ≤ 1000) (w : World) (ha : AqsAt w a la) :
    Calls Tryd.prog 30 #[.slice a la.length ca, .int .i64 (most : Int)] w fun e w' => ∃ v, e = .returned (.tuple #[v, .bool (findS la most).2]) ∧ Below w.heap.size w w' ∧ w'.ownsRow (w.heap.size + 1) 95 6 v (findS la most).1.length (chL (findS la most).1) := by
  have hB0 : Below w.heap.size w (w.alloc (.cells #[.slice a la.length ca, .int .i64 most, .slice none 0 0, .bool false] 118)) := (Below.refl _ _).alloc (Nat.le_refl _) _
  have h0 : FI w (w.alloc (.cells #[.slice a la.length ca, .int .i64 most, .slice none 0 0, .bool false] 118)) w.heap.size a la.length ca most (.slice none 0 0) ([], false) :=
    ⟨hB0, by simp, heap_alloc_new _ _, World.ownsRow_nil _ _ _ _⟩
  have hE := ext_any w.heap.size a ca most la hok hla hm100 w (show Hid _ from rfl) ha
  have HF : Hid ((List.range' 2 4).foldl (fun st n => extS la most n [] st) ([], false) = findS la most) := rfl
  generalize findS la most = R at *
  go_enter Tryd.func30, Tryd.ntmps30
  go_wp2
  generalize w.alloc (.cells #[.slice a la.length ca, .int .i64 most, .slice none 0 0, .bool false] 118) = X at *
  go_loopw [7] (fun y wr => ∃ n : Nat, 2 ≤ n ∧ n ≤ 6 ∧ y = .int .i64 (n : Int) ∧ ∃ v st, FI w wr w.heap.size a la.length ca most v st ∧ Hid ((List.range' n (6 - n)).foldl (fun st n => extS la most n [] st) st = R)) (fun y _ => 6 - (intOf y).toNat)
  case atStart => exact ⟨2, by omega, by omega, rfl, _, _, h0, HF⟩
  case round =>
    obtain ⟨n, hn2, hn6, rfl, v, st, h1, HS⟩ := hrel
    by_cases hn : n < 6
    · have nI : (n : Int) ≤ 5 := by omega
      have hC := hE n [] n (by simp) (by omega) (by omega) (fun i hi => by cases hi) wr v st h1 _ chC_nil.symm
      have HS2 : Hid ((List.range' (n + 1) (6 - (n + 1))).foldl (fun st n => extS la most n [] st) (extS la most n [] st) = R) := by
        rw [Hid, ← HS.out, show 6 - n = (6 - (n + 1)) + 1 by omega, List.range'_succ, List.foldl_cons]
      clear HS hE
      go_wp2_with (first | (go_at_call 47; refine hC.mono ?_; rintro e w3 ⟨rfl, v3, h3, k3⟩))
      go_roundw
      case rel => exact ⟨n + 1, by omega, by omega, by go_num, v3, _, h3, HS2⟩
      case measure => (simp [intOf] <;> omega)
    · have nI : ¬ (n : Int) ≤ 5 := by omega
      have hR : R = st := by rw [← HS.out, show n = 6 by omega]; rfl
      subst hR
      have f2 : wr.cell? ⟨w.heap.size, 2, none⟩ = some v := cellB h1.blk rfl
      have f3 : wr.cell? ⟨w.heap.size, 3, none⟩ = some (.bool R.2) := cellB h1.blk rfl
      obtain ⟨av, cv, hv⟩ : ∃ av cv, v = .slice av R.1.length cv := by
        rcases h1.row.2 with ⟨rfl, h2⟩ | ⟨gg, cap, _, rfl, _⟩
        · exact ⟨none, 0, by rw [h2]⟩
        · exact ⟨_, cap, rfl⟩
      subst hv
      clear HS hE
      go_upto_region 6 with fail
      go_quiet (fail)
      go_wp2
      go_ret2
      exact ⟨_, rfl, h1.below.trans ((below_drewN _ _).mono h1.below.size), ownsRow_below h1.row (below_drewN _ _)⟩
end Go.Proofs.YtdfndcbakcmgiabDoor
namespace Go.Proofs.YtdfndcbakcmgiabDoor
open Go.RowKit

theorem ownsRow_set {w : World} {B : Nat} {e : TypeId} {size n : Nat} {v : Value} {xs : List Value} (h : w.ownsRow B e size v n xs) (b j : Nat) (u : Value) (hb : b < B) : (w.setCell ⟨b, j, none⟩ u).ownsRow B e size v n xs :=
  h.kept (row := some b) ⟨rfl, rfl, rfl, by simp [World.setCell], fun k _ hk => Below.heap_setCell _ _ _ _ (fun e => hk (by rw [e]))⟩ (.inr (fun hh => by have := (World.ownsRow.lt h b hh).1; omega))
theorem ownsRow_base {w : World} {B B' : Nat} {e : TypeId} {size n : Nat} {v : Value} {xs : List Value} (h : w.ownsRow B e size v n xs) (hB : B' ≤ B) : w.ownsRow B' e size v n xs := by
  obtain ⟨h1, h2⟩ := h
  refine ⟨h1, ?_⟩
  rcases h2 with h2 | ⟨g, cap, cur, a, b, c⟩
  · exact .inl h2
  · exact .inr ⟨g, cap, cur, a, Nat.le_trans hB b, c⟩
abbrev ringC (la : List Aq) (p : List Nat) : List Value := ((ringOf la p).map Aq.ak).flatMap akCells
abbrev rwN (v : Value) (n : Nat) (p : List Nat) : RowD := ⟨3, 1, v, n, intV p⟩
abbrev rwR (v : Value) (n : Nat) (la : List Aq) (p : List Nat) : RowD := ⟨37, 5, v, n, ringC la p⟩
theorem ringC_snoc (la : List Aq) (p : List Nat) (k : Nat) : ringC la (p ++ [k]) = ringC la p ++ akCells (aqOf la k).ak := by simp [ringC, ringOf]
theorem intV_snoc (p : List Nat) (k : Nat) : intV (p ++ [k]) = intV p ++ [.int .i64 k] := by simp [intV]
theorem take_snoc {p : List Nat} {i k : Nat} (h : p[i]? = some k) : p.take (i + 1) = p.take i ++ [k] := by rw [List.take_add_one, h]; rfl

set_option maxRecDepth 100000 in
set_option maxHeartbeats 8000000 in
theorem reportOf_any (g c : Nat) (Wn : Value) {N : Nat} (log : List Ev) (hL : ∀ v ∈ log, EvOk N v) (hN : N ≤ 5) (w : World) (hE : MvsAt w g (log.map mvE)) (hl : log.length ≤ 60) (a : Option Addr) (ca : Nat) (la : List Aq) (hok : ∀ x ∈ la, x.Ok) (ha : AqsAt w a la)
    (p : List Nat) (hp5 : p.length ≤ 5) (hin : ∀ i ∈ p, i < la.length) (cs : Array Value) (hcs : cs = chC p) :
    Calls Tryd.prog 31 #[.agg #[.slice (some ⟨g, 0, none⟩) log.length c, Wn], .slice a la.length ca, .agg cs] w fun e w' => ∃ g' c', e = .returned (.agg #[.slice (some ⟨g', 0, none⟩) p.length c', .int .i64 (judgeV log (ringOf la p)).1, .string (digS (judgeV log (ringOf la p)).2)]) ∧ Below w.heap.size w w' ∧ w'.ownsRow w.heap.size 3 1 (.slice (some ⟨g', 0, none⟩) p.length c') p.length (intV p) := by
  subst hcs
  have hB0 : Below w.heap.size w ((chBox (trBox w g log.length c Wn) p).alloc (.cells #[.slice none 0 0, .int .i64 0, .string ⟨#[]⟩] 35)) := (two_new (Below.refl _ _)).2.2.1.alloc (by simp; omega) _
  have x0 : ((chBox (trBox w g log.length c Wn) p).alloc (.cells #[.slice none 0 0, .int .i64 0, .string ⟨#[]⟩] 35)).cell? ⟨w.heap.size, 0, none⟩ = some (.slice (some ⟨g, 0, none⟩) log.length c) := cellB (by rw [heap_alloc_old _ _ (by simp; omega)]; exact heap_alloc2_old _ _ _) rfl
  have x1 : ((chBox (trBox w g log.length c Wn) p).alloc (.cells #[.slice none 0 0, .int .i64 0, .string ⟨#[]⟩] 35)).cell? ⟨w.heap.size, 1, none⟩ = some Wn := cellB (by rw [heap_alloc_old _ _ (by simp; omega)]; exact heap_alloc2_old _ _ _) rfl
  have pA : ∀ i v, (chC p)[i]? = some v → ((chBox (trBox w g log.length c Wn) p).alloc (.cells #[.slice none 0 0, .int .i64 0, .string ⟨#[]⟩] 35)).cell? ⟨w.heap.size + 1, i, none⟩ = some v := fun i v hv => cellB (by rw [heap_alloc_old _ _ (by simp)]; exact heap_alloc2_new _ _ _) hv
  have hrb : ((chBox (trBox w g log.length c Wn) p).alloc (.cells #[.slice none 0 0, .int .i64 0, .string ⟨#[]⟩] 35)).heap[w.heap.size + 2]? = some (.cells #[.slice none 0 0, .int .i64 0, .string ⟨#[]⟩] 35) := by
    have := heap_alloc_new (chBox (trBox w g log.length c Wn) p) (.cells #[.slice none 0 0, .int .i64 0, .string ⟨#[]⟩] 35)
    simpa using this
  have p5 := pA 5 (.int .i64 p.length) rfl
  have hs3 : ((chBox (trBox w g log.length c Wn) p).alloc (.cells #[.slice none 0 0, .int .i64 0, .string ⟨#[]⟩] 35)).heap.size = w.heap.size + 3 := by simp
  have hE0 := hE.below hB0
  have ha0 := ha.below hB0
  have hchC : chC p = #[.int .i64 (pAt p 0), .int .i64 (pAt p 1), .int .i64 (pAt p 2), .int .i64 (pAt p 3), .int .i64 (pAt p 4), .int .i64 p.length] := rfl
  generalize hX : (chBox (trBox w g log.length c Wn) p).alloc (.cells #[.slice none 0 0, .int .i64 0, .string ⟨#[]⟩] 35) = X at *
  have HX : Hid (((w.alloc (.cells #[.slice (some ⟨g, 0, none⟩) log.length c, Wn] 52)).alloc (.cells #[.int .i64 (pAt p 0), .int .i64 (pAt p 1), .int .i64 (pAt p 2), .int .i64 (pAt p 3), .int .i64 (pAt p 4), .int .i64 p.length] 95)).alloc (.cells #[.slice none 0 0, .int .i64 0, .string ⟨#[]⟩] 35) = X) := hX
  have HJ := fun w' (hE' : MvsAt w' g (log.map mvE)) a' ca' (ha' : AqsAt w' a' (ringOf la p)) => judge_any g c Wn log hL hN w' hE' hl log.length rfl a' ca' (ringOf la p) (by simp [ringOf]; omega) (fun x hx => by
    obtain ⟨i, hi, rfl⟩ := List.mem_map.1 hx
    exact hok _ (aqOf_mem (hin i hi))) p.length (by simp [ringOf]) ha'
  generalize judgeV log (ringOf la p) = J at *
  rw [hchC]
  have hf0 := (((Fams.nil X X.heap.size).lit (Nat.le_refl _) 3 1 #[] 0 (Nat.zero_le _) rfl).lit (by simp) 37 5 #[] 0 (Nat.zero_le _) rfl).perm (List.Perm.swap ..)
  have hBf0 : Below X.heap.size X ((X.alloc (.cells #[] 3)).alloc (.cells #[] 37)) := (two_new (Below.refl _ _)).2.2.1
  have HS3 := show Hid _ from hs3
  clear hX hchC hE ha hs3
  go_enter Tryd.func31, Tryd.ntmps31
  go_upto_region 1 with fail
  rw [HX.out]
  go_wp2
  go_loopw [7, 8, 9] (fun vn vr y wr => ∃ i gn cn gr cr : Nat, i ≤ p.length ∧ y = .int .i64 (i : Int) ∧ vn = .slice (some ⟨gn, 0, none⟩) i cn ∧ vr = .slice (some ⟨gr, 0, none⟩) i cr ∧ Fams wr X.heap.size [rwN (.slice (some ⟨gn, 0, none⟩) i cn) i (p.take i), rwR (.slice (some ⟨gr, 0, none⟩) i cr) i la (p.take i)] ∧ Below X.heap.size X wr) (fun _ _ y _ => p.length - (intOf y).toNat)
  case atStart =>
    refine ⟨0, _, _, _, _, Nat.zero_le _, rfl, rfl, rfl, ?_, hBf0⟩
    simpa [rwN, rwR, intV, ringC, ringOf] using hf0
  case round =>
    obtain ⟨i, gn, cn, gr, cr, hi, rfl, rfl, rfl, hF, hB⟩ := hrel
    have hsz := hB.size
    have p5r := cell_later hB p5
    have htl : (p.take i).length = i := by simp; omega
    by_cases hil : i < p.length
    · obtain ⟨z, hz⟩ := get_some p i hil
      obtain ⟨x, hx⟩ := get_some la z (hin z (List.mem_of_getElem? hz))
      have hzl := (List.getElem?_eq_some_iff.1 hx).1
      have pz := cell_later hB (pA i _ (chC_at p i (by omega)))
      rw [pAt_get hz] at pz
      have HPz : Hid (∀ w', Below X.heap.size X w' → w'.cell? ⟨w.heap.size + 1, i, none⟩ = some (.int .i64 (z : Int)) ∧ AqsAt w' a la) := fun w' hb => ⟨by have := cell_later hb (pA i _ (chC_at p i (by omega))); rwa [pAt_get hz] at this, ha0.below hb⟩
      have i0 : (0 : Int) ≤ (i : Int) := by omega
      have il : (i : Int) < (p.length : Int) := by omega
      have i5 : (i : Int) < 5 := by omega
      have z0 : (0 : Int) ≤ (z : Int) := by omega
      have zl : (z : Int) < (la.length : Int) := by omega
      have own1 := hF.own (List.mem_cons_self ..)
      have HT : Hid (p.take (i + 1) = p.take i ++ [z]) := take_snoc hz
      have HTl : Hid ((p.take i).length = i) := htl
      have hxx : la[z]? = some x := hx
      clear HJ pA hx hz hf0 hBf0 htl
      go_upto_region 7 with (at_builtin; go_loud (refine wpList_appendLit _ rfl _ _ 22 rfl X.heap.size 3 (.int .i64 0) 1 8 Tryd.underlying22 infoInt rfl (by decide) _ _ _ rfl own1 _ _ rfl rfl rfl ?c2 ?c3 ?c4 ?c5 ?_))
      case c2 => rfl
      case c3 => omega
      intro v5 w5 ho5 hg5 hf5 hn5
      have hF5 := (hF.alloc (.cells #[.int .i64 (z : Int)] 3)).head (r' := ⟨3, 1, v5, i + 1, intV (p.take i) ++ [Value.int .i64 (z : Int)]⟩) hg5 hf5 ho5
      have hB5 : Below X.heap.size X w5 := below_grown (hB.alloc hsz _) (by simp; omega) hg5 (fun k hk => (World.ownsRow.lt own1 k hk).1)
      obtain ⟨g5, cap5, hv5⟩ := row_form ho5 hn5
      subst hv5
      obtain ⟨pz5, ha5⟩ := HPz.out w5 hB5
      obtain ⟨G, e2, c0, c1, c2, c3, c4⟩ := ha5 z x hxx
      subst e2
      have hsz5 := hB5.size
      have own2 := hF5.own (List.mem_cons_of_mem _ (List.mem_cons_self ..))
      generalize hvx : evI x.ev = vx at *
      have HVX : Hid (akCells (aqOf la z).ak = [.int .i64 x.th, .int .i64 x.pl, .string (letS 97 [x.k]), .string (letS 97 x.hl), .int .i64 vx]) := by rw [Hid, aqOf_get hxx, ← hvx]; rfl
      clear hg5 hf5 hn5 own1 hxx hvx pz HPz
      go_wp2_with (at_builtin; go_loud (refine wpList_appendLit _ rfl _ _ 28 rfl X.heap.size 37 (.agg #[.int .i64 0, .int .i64 0, .string ⟨#[]⟩, .string ⟨#[]⟩, .int .i64 0]) 5 56 Tryd.underlying28 infoAsk rfl (by decide) _ _ _ rfl own2 _ _ rfl rfl rfl ?d2 ?d3 ?d4 ?d5 ?_))
      case d2 => simp [Value.oneCell']
      case d3 => omega
      intro v6 w6 ho6 hg6 hf6 hn6
      have hF6 := (((hF5.alloc (.cells #[.int .i64 x.th, .int .i64 x.pl, .string (letS 97 [x.k]), .string (letS 97 x.hl), .int .i64 vx] 37)).perm (List.Perm.swap ..)).head (r' := ⟨37, 5, v6, i + 1, ringC la (p.take i) ++ [Value.int .i64 x.th, Value.int .i64 x.pl, Value.string (letS 97 [x.k]), Value.string (letS 97 x.hl), Value.int .i64 vx]⟩) hg6 hf6 ho6).perm (List.Perm.swap ..)
      have hB6 : Below X.heap.size X w6 := below_grown (hB5.alloc hsz5 _) (by simp; omega) hg6 (fun k hk => (World.ownsRow.lt own2 k hk).1)
      obtain ⟨g6, cap6, hv6⟩ := row_form ho6 hn6
      subst hv6
      clear hg6 hf6 hn6 own2
      go_wp2
      go_roundw
      case rel => exact ⟨i + 1, g5, cap5, g6, cap6, by omega, by go_num, rfl, rfl, by rw [HT.out, rwN, rwR, intV_snoc, ringC_snoc, HVX.out]; exact hF6, hB6⟩
      case measure => (simp [intOf] <;> omega)
    · have il : ¬ (i : Int) < (p.length : Int) := by omega
      have hip : i = p.length := by omega
      subst hip
      rw [List.take_length] at hF
      have own1 := hF.own (List.mem_cons_self ..)
      have own2 := hF.own (List.mem_cons_of_mem _ (List.mem_cons_self ..))
      have hAq : AqsAt wr (some ⟨gr, 0, none⟩) (ringOf la p) := aqsAt_of (aksAt_row (n := p.length) (c := cr) (B := X.heap.size) (by simp [ringOf]) own2)
      have hJ2 := HJ wr (hE0.below hB) _ cr hAq
      have t0 := cell_later hB x0
      have t1 := cell_later hB x1
      have HB : Hid (∀ w', Below wr.heap.size wr w' → (w'.cell? ⟨w.heap.size + 2, 0, none⟩ = some (.slice none 0 0) ∧ w'.cell? ⟨w.heap.size + 2, 1, none⟩ = some (.int .i64 0) ∧ w'.cell? ⟨w.heap.size + 2, 2, none⟩ = some (.string ⟨#[]⟩) ∧ ∀ j, w'.frozen? ⟨w.heap.size + 2, j, none⟩ = false)) := fun w' hb => by
        have hbl : w'.heap[w.heap.size + 2]? = some (.cells #[.slice none 0 0, .int .i64 0, .string ⟨#[]⟩] 35) := by
          have := HS3.out
          rw [hb.block _ (by omega), hB.block _ (by omega)]; exact hrb
        exact ⟨cellB hbl rfl, cellB hbl rfl, cellB hbl rfl, fun j => frozen_of_row _ _ j _ _ hbl⟩
      have hBw := hB0.trans (hB.mono hB0.size)
      have HBs : Hid (w.heap.size + 2 < X.heap.size) := by rw [Hid, HS3.out]; omega
      clear HJ pA hf0 hBf0 own2 hAq hrb p5 htl x0 x1
      go_wp2_with (first | (go_at_call 48; refine hJ2.mono ?_; rintro e w8 ⟨rfl, hb8⟩; obtain ⟨d0, d1, d2, dz⟩ := HB.out w8 hb8; have own8 := ownsRow_below own1 hb8; have hB8 := hBw.trans (hb8.mono hBw.size)))
      refine bodyPost_ret (v := .agg #[.slice (some ⟨gn, 0, none⟩) p.length cn, .int .i64 J.1, .string (digS J.2)]) (by simp [results, Tryd.results31, go_sem, d0, d1, d2]) rfl ⟨gn, cn, rfl, ?_, ?_⟩
      · exact ((hB8.setCell (by show w.heap.size ≤ w.heap.size + 2; omega) _).setCell (by show w.heap.size ≤ w.heap.size + 2; omega) _).setCell (by show w.heap.size ≤ w.heap.size + 2; omega) _
      · exact ownsRow_base (ownsRow_set (ownsRow_set (ownsRow_set own8 _ _ _ HBs.out) _ _ _ HBs.out) _ _ _ HBs.out) (by have := HBs.out; omega)
end Go.Proofs.YtdfndcbakcmgiabDoor
namespace Go.Proofs.YtdfndcbakcmgiabDoor
open Go.RowKit

/-! Reports, as they lie: a row of them, and the numbers of each in a row of its own. -/
structure Rp where
  asks : List Nat
  vd : Int
  sc : List Nat
noncomputable def rpOf (log : List Ev) (la : List Aq) (p : List Nat) : Rp := ⟨p, (judgeV log (ringOf la p)).1, (judgeV log (ringOf la p)).2⟩
def rpCells (u : Value) (x : Rp) : List Value := [u, .int .i64 x.vd, .string (digS x.sc)]
def rpsXs : List Value → List Rp → List Value
  | u :: us, x :: L => rpCells u x ++ rpsXs us L
  | _, _ => []
def inn : List Value → List Rp → List RowD
  | u :: us, x :: L => rwN u x.asks.length x.asks :: inn us L
  | _, _ => []
theorem rpsXs_snoc : ∀ (us : List Value) (L : List Rp) (u : Value) (x : Rp), us.length = L.length → rpsXs (us ++ [u]) (L ++ [x]) = rpsXs us L ++ rpCells u x
  | [], [], u, x, _ => by simp [rpsXs]
  | [], _ :: _, _, _, h => by simp at h
  | _ :: _, [], _, _, h => by simp at h
  | a :: us, b :: L, u, x, h => by
    have := rpsXs_snoc us L u x (by simpa using h)
    simp only [List.cons_append, rpsXs, this, List.append_assoc]
theorem inn_snoc : ∀ (us : List Value) (L : List Rp) (u : Value) (x : Rp), us.length = L.length → inn (us ++ [u]) (L ++ [x]) = inn us L ++ [rwN u x.asks.length x.asks]
  | [], [], u, x, _ => by simp [inn]
  | [], _ :: _, _, _, h => by simp at h
  | _ :: _, [], _, _, h => by simp at h
  | a :: us, b :: L, u, x, h => by
    have := inn_snoc us L u x (by simpa using h)
    simp only [List.cons_append, inn, this]
theorem rpsXs_at : ∀ (us : List Value) (L : List Rp) (k : Nat) (u : Value) (x : Rp), us[k]? = some u → L[k]? = some x → ∀ i v, (rpCells u x)[i]? = some v → (rpsXs us L)[k * 3 + i]? = some v
  | [], _, k, u, x, h, _, _, _, _ => by simp at h
  | _ :: _, [], k, u, x, _, h, _, _, _ => by simp at h
  | a :: us, b :: L, 0, u, x, h1, h2, i, v, h => by
    simp only [List.getElem?_cons_zero, Option.some.injEq] at h1 h2
    subst h1 h2
    have hi := (List.getElem?_eq_some_iff.1 h).1
    rw [rpsXs, Nat.zero_mul, Nat.zero_add, List.getElem?_append_left hi]
    exact h
  | a :: us, b :: L, k + 1, u, x, h1, h2, i, v, h => by
    have := rpsXs_at us L k u x (by simpa using h1) (by simpa using h2) i v h
    have hl : (rpCells a b).length = 3 := rfl
    rw [rpsXs, List.getElem?_append_right (by omega), hl, show (k + 1) * 3 + i - 3 = k * 3 + i by omega]
    exact this
theorem inn_at : ∀ (us : List Value) (L : List Rp) (k : Nat) (u : Value) (x : Rp), us[k]? = some u → L[k]? = some x → (inn us L)[k]? = some (rwN u x.asks.length x.asks)
  | [], _, k, u, x, h, _ => by simp at h
  | _ :: _, [], k, u, x, _, h => by simp at h
  | a :: us, b :: L, 0, u, x, h1, h2 => by
    simp only [List.getElem?_cons_zero, Option.some.injEq] at h1 h2
    subst h1 h2; rfl
  | a :: us, b :: L, k + 1, u, x, h1, h2 => by
    rw [inn, List.getElem?_cons_succ]
    exact inn_at us L k u x (by simpa using h1) (by simpa using h2)
abbrev rwO (v : Value) (us : List Value) (L : List Rp) : RowD := ⟨35, 3, v, L.length, rpsXs us L⟩
structure RepsIn (w : World) (B : Nat) (v : Value) (L : List Rp) (us : List Value) : Prop where
  len : us.length = L.length
  some : ∀ u ∈ us, u.ownBlock ≠ none
  fam : Fams w B (rwO v us L :: inn us L)
theorem RepsIn.start (w : World) : RepsIn (w.alloc (.cells #[] 35)) w.heap.size (.slice (.some ⟨w.heap.size, 0, none⟩) 0 0) [] [] :=
  ⟨rfl, (fun u hu => by cases hu), (Fams.nil w w.heap.size).lit (Nat.le_refl _) 35 3 #[] 0 (Nat.zero_le _) rfl⟩
theorem RepsIn.below {w w' : World} {B : Nat} {v : Value} {L : List Rp} {us : List Value} (h : RepsIn w B v L us) (hb : Below w.heap.size w w') : RepsIn w' B v L us := ⟨h.len, h.some, h.fam.below hb⟩
theorem RepsIn.push {w w2 wx w3 : World} {B : Nat} {v v' u : Value} {L : List Rp} {us : List Value} {x : Rp} (h : RepsIn w B v L us) (hB : B ≤ w.heap.size) (hb : Below w.heap.size w w2) (hu : w2.ownsRow w.heap.size 3 1 u x.asks.length (intV x.asks)) (hun : u.ownBlock ≠ none)
    (hx : Below w2.heap.size w2 wx) (hg : wx.grownBy w3 v.ownBlock) (hf : Fresh wx v v') (hown : w3.ownsRow B 35 3 v' (L.length + 1) (rpsXs us L ++ rpCells u x)) : RepsIn w3 B v' (L ++ [x]) (us ++ [u]) := by
  have h1 := (h.fam.add (r := rwN u x.asks.length x.asks) hb hu hB).below hx
  have h2 := (h1.perm (List.Perm.swap ..)).head (r' := ⟨35, 3, v', L.length + 1, rpsXs us L ++ rpCells u x⟩) hg hf hown
  refine ⟨by simp [h.len], fun y hy => ?_, ?_⟩
  · rcases List.mem_append.1 hy with hy | hy
    · exact h.some y hy
    · rw [List.mem_singleton.1 hy]; exact hun
  · rw [rwO, rpsXs_snoc us L u x h.len, inn_snoc us L u x h.len, List.length_append]
    refine h2.perm (List.Perm.cons _ ?_)
    exact (List.perm_append_comm (l₁ := [rwN u x.asks.length x.asks]) (l₂ := inn us L))
theorem chL_at : ∀ (C : List (List Nat)) (k : Nat) (p : List Nat), C[k]? = some p → ∀ i v, (chC p)[i]? = some v → (chL C)[k * 6 + i]? = some v
  | [], k, p, h, _, _, _ => by simp at h
  | a :: C, 0, p, h, i, v, hv => by
    simp only [List.getElem?_cons_zero, Option.some.injEq] at h
    subst h
    have hi := (Array.getElem?_eq_some_iff.1 hv).1
    have hl : (chL (a :: C)) = (chC a).toList ++ chL C := by simp [chL]
    rw [hl, Nat.zero_mul, Nat.zero_add, List.getElem?_append_left (by simpa using hi)]
    simpa using hv
  | a :: C, k + 1, p, h, i, v, hv => by
    have := chL_at C k p (by simpa using h) i v hv
    have hl : (chL (a :: C)) = (chC a).toList ++ chL C := by simp [chL]
    have h6 : (chC a).toList.length = 6 := rfl
    rw [hl, List.getElem?_append_right (by omega), h6, show (k + 1) * 6 + i - 6 = k * 6 + i by omega]
    exact this
theorem infoRp : (Tryd.prog.info? 35).map (fun i => (i.zero, i.size, i.bytes)) = some (some (.agg #[.slice none 0 0, .int .i64 0, .string ⟨#[]⟩]), 3, 48) := by kernel_rfl
theorem findS_ok (la : List Aq) (most : Nat) : (findS la most).1.length ≤ most := by
  rw [findS_add]
  exact addS_ok (Nat.zero_le _) _
theorem findS_in (la : List Aq) (most : Nat) : ∀ p ∈ (findS la most).1, p.length ≤ 5 ∧ 2 ≤ p.length ∧ ∀ i ∈ p, i < la.length := by
  intro p hp
  have hs : (findS la most).1 = ([2, 3, 4, 5].flatMap fun n => dfs la n []).take most := by rw [findS_add]; rfl
  rw [hs] at hp
  obtain ⟨n, hn, hp⟩ := List.mem_flatMap.1 (List.mem_of_mem_take hp)
  have hn2 : 2 ≤ n ∧ n ≤ 5 := by simp at hn; omega
  rw [← chn_dfs la n (by omega), chn_cf] at hp
  have hp := (List.mem_filter.1 hp).1
  obtain ⟨r, hr, hl⟩ := cf_pre la n [] p hp
  rw [List.nil_append] at hr
  refine ⟨by rw [hr]; omega, by rw [hr]; omega, cf_in la n [] (fun i hi => by cases hi) p hp⟩
end Go.Proofs.YtdfndcbakcmgiabDoor
