import Derived.Test.YtdfndcbakcmgiabDoorK6
import Derived.Test.YtdfndcbakcmgiabDoorD1
import Derived.Test.YtdfndcbakcmgiabDoorB4
import Derived.Deep.WholeRow
namespace Go.Proofs.YtdfndcbakcmgiabDoor
open Go.RowKit

def storeP (p v : Value) : Sem Unit := Instr.storeAt 106 p v
theorem storeP_fold (p v : Value) : Instr.storeAt 106 p v = storeP p v := rfl
def zeroP : Array Value := zeroS ++ #[.string ⟨#[]⟩]
theorem zeroP_fold (w : World) : (zeroValue 106).run Tryd.prog w = .ok (.agg zeroP) w := Tryd.zeroValue106 w
theorem storeP_run (w : World) {x : Sp} (ok : x.1.Ok) : (storeP (.pointer (some ⟨w.heap.size, 0, none⟩)) (.agg (spC x))).run Tryd.prog (w.alloc (.cells zeroP 106)) = .ok () (w.alloc (.cells (spC x) 106)) := by
  have h23 := spC_size ok
  refine run_storeAt_new w _ zeroP (spC x) (by rw [h23]; exact infoP) (by rw [h23]; rfl) (Array.all_eq_true_iff_forall_mem.2 fun u hu => ?_)
  have hu : u ∈ (spC x).toList := by simpa using hu
  simp only [spC, List.mem_append, List.mem_singleton] at hu
  rcases hu with hu | hu
  · exact MS.cells_one (s := x.1) u (by simpa [MS.cells] using hu)
  · rw [hu]; rfl
set_option maxRecDepth 100000 in
theorem build22 : Array.foldl (fun (a : Array Value) (x : Value × Nat) => a.setIfInBounds x.2 x.1) zeroP firstM.cells.zipIdx 0 22 = spC (firstM, []) := by rfl
theorem LI.start (w : World) : LI w (w.alloc (.cells #[.slice none 0 0] 102)) w.heap.size (.slice none 0 0) [] :=
  ⟨(Below.refl _ _).alloc (Nat.le_refl _) _, by simp, heap_alloc_new _ _, World.ownsRow_nil _ _ _ _, fun x hx => by cases hx⟩

attribute [local go_sem ↓] loadS_fold storeS_fold zeroS_fold loadP_fold storeP_fold zeroP_fold
set_option maxRecDepth 100000 in
set_option maxHeartbeats 1000000 in
theorem search_any (V : Value) (B : Nat) (W0 : Wd) (I0 : W0.Inv) (hl0 : W0.log = []) (hf0 : firstM = msOf W0) (w : World) (hp : ProgIn w B V (progL W0)) (b : Nat) (hb : b ≤ 400) :
    Calls Tryd.prog 23 #[.agg #[V], .int .i64 (b : Int)] w fun e w' => e = .returned (.tuple #[.string (digS (srch b b [⟨W0, []⟩] 0).1), .int .i64 (srch b b [⟨W0, []⟩] 0).2]) ∧ Below w.heap.size w w' := by
  have hn5 := I0.good.n5
  have hok0 : Nd.Ok W0 ⟨W0, []⟩ := ⟨I0, rfl, rfl, fun t ht => absurd ht (by simp), by rw [hl0]; rfl⟩
  have hB0 : Below w.heap.size w (w.alloc (.cells #[V] 60)) := (Below.refl _ _).alloc (Nat.le_refl _) _
  have hs0 : (w.alloc (.cells #[V] 60)).heap.size = w.heap.size + 1 := by simp
  have hp0 := hp.alloc (.cells #[V] 60)
  have hb0 : (w.alloc (.cells #[V] 60)).heap[w.heap.size]? = some (.cells #[V] 60) := heap_alloc_new _ _
  have h0 := LI.start (w.alloc (.cells #[V] 60))
  generalize hX : w.alloc (.cells #[V] 60) = X at *
  have HX := show Hid _ from hX
  generalize hY : X.alloc (.cells #[.slice none 0 0] 102) = Y at *
  have HY := show Hid _ from hY
  generalize hR : srch b b [⟨W0, []⟩] 0 = R
  have HR := show Hid _ from hR
  have hF := First_any Y
  have hs1 : X.heap.size = w.heap.size + 1 := hs0
  have hc0 : X.cell? ⟨w.heap.size, 0, none⟩ = some V := cellB hb0 rfl
  have HPt : Hid (∀ w', Below Y.heap.size Y w' → Calls Tryd.prog 35 #[.pointer (some ⟨w.heap.size + 1, 0, none⟩), .agg (spC (firstM, []))] w' fun e w' => e = .returned (.tuple #[]) ∧ ∃ v', LI X w' (w.heap.size + 1) v' (spL [⟨W0, []⟩])) := fun w' hw' => by
    rw [hs1] at h0
    have := put_any (w.heap.size + 1) X w' _ [] (by simp) (h0.later hw') ⟨W0, []⟩ (msOf_ok I0.good) _ rfl
    have e1 : putQ [] ⟨W0, []⟩ = [⟨W0, []⟩] := putQ_no fun ⟨y, hy, _⟩ => by cases hy
    rw [e1, spN, ← hf0] at this
    exact this.mono fun _ _ ⟨h1, v', h2, _⟩ => ⟨h1, v', h2⟩
  have hbl := build22
  generalize hcs : spC (firstM, []) = cs0 at *
  have h22 : firstM.cells.size = 22 := rfl
  generalize firstM.cells = fc at *
  clear hX hY hR hcs hp h0 hb0
  go_enter Tryd.func23, Tryd.ntmps23
  go_upto_region 1 with fail
  rw [HX.out]
  go_upto_region 2 with fail
  rw [HY.out]
  go_upto_region 3 with (first
    | (go_at_call 36; refine hF.mono ?_; rintro e w1 ⟨rfl, hb1⟩)
    | (go_at_call 35; refine (HPt.out _ hb1).mono ?_; rintro e w2 ⟨rfl, v2, h2⟩))
  generalize hff : w.heap.size + 1 = f at *
  have Hff := show Hid _ from hff
  have hfw : w.heap.size < f := by omega
  have hfX : Hid (f = X.heap.size) := by rw [Hid]; omega
  have HPr : Hid (∀ w' v' Q', LI X w' f v' Q' → ProgIn w' B V (progL W0) ∧ w'.cell? ⟨w.heap.size, 0, none⟩ = some V) := fun w' v' Q' hl => by
    have hbl := hl.below
    rw [hfX.out] at hbl
    exact ⟨hp0.below hbl, cell_later hbl hc0⟩
  have HMv : Hid (∀ w' v' Q' (x : Nd), x.Ok W0 → Q'.length ≤ 9000 → LI X w' f v' (spL Q') → Calls Tryd.prog 38 #[.pointer (some ⟨f, 0, none⟩), .agg #[V], .agg (spC (spN x))] w' fun e w'' => e = .returned (.tuple #[]) ∧ ∃ v'', LI X w'' f v'' (spL (kidsF x W0.prog.length 0 Q'))) := fun w' v' Q' x hx hq hl =>
    (putMoves_any f X hfX V B W0 hn5 hp0 x hx w' v' Q' hq hl _ rfl).mono fun _ _ ⟨h1, v3, h3, _⟩ => ⟨h1, v3, h3⟩
  have HHr : Hid (∀ w' (x : Nd), x.Ok W0 → ProgIn w' B V (progL W0) → Calls Tryd.prog 37 #[.agg #[V], .agg (msOf x.W).cells] w' fun e w'' => e = .returned (.bool (ringW x.W)) ∧ Below w'.heap.size w' w'') := fun w' x hx hp' =>
    hasRing_any V x.W hx.inv w' B (by rw [progL, hx.prog]; exact hp')
  have hok1 : ∀ x ∈ [(⟨W0, []⟩ : Nd)], x.Ok W0 := fun x hx => by rw [List.mem_singleton.1 hx]; exact hok0
  clear hff hF HPt hbl h22 hp0 hc0 hb1 hl0 hf0 hok0
  go_wp2
  go_loopw [7] (fun y wr => ∃ (k : Nat) (v1 : Value) (Q1 : List Nd), k ≤ b ∧ y = .int .i64 (k : Int) ∧ LI X wr f v1 (spL Q1) ∧ (∀ x ∈ Q1, x.Ok W0) ∧ Hid (srch b (b - k) Q1 k = R) ∧ Q1.length ≤ 1 + 5 * k) (fun y _ => b - (intOf y).toNat)
  case atStart => exact ⟨0, v2, _, Nat.zero_le _, rfl, h2, hok1, HR, by simp⟩
  case round =>
    obtain ⟨k, v1, Q1, hk, rfl, h1, hok, HS, hq⟩ := hrel
    have hbw : Below w.heap.size w wr := hB0.trans (h1.below.mono (by omega))
    obtain ⟨av, cv, hv, hcell⟩ := h1.form
    have hlQ : (spL Q1).length = Q1.length := by simp [spL]
    rw [hlQ] at hv
    subst hv
    have f0 : wr.cell? ⟨f, 0, none⟩ = some (.slice av Q1.length cv) := cellB h1.blk rfl
    clear h2 hok1 HR
    by_cases hkb : k < b
    · have kb : (k : Int) < (b : Int) := by omega
      by_cases hkq : k < Q1.length
      · obtain ⟨x, hx⟩ := get_some Q1 k hkq
        have hxo := hok x (List.mem_of_getElem? hx)
        have hsx : (spL Q1)[k]? = some (spN x) := by rw [spL, List.getElem?_map, hx]; rfl
        obtain ⟨g, e1, hcl⟩ := hcell k (spN x) hsx
        subst e1
        have k0 : (0 : Int) ≤ (k : Int) := by omega
        have kl : (k : Int) < (Q1.length : Int) := by omega
        have kg : ¬ (Q1.length : Int) ≤ (k : Int) := by omega
        have okx : (spN x).1.Ok := msOf_ok hxo.inv.good
        have hld := loadP_mid okx hcl
        have hst := storeP_run wr okx
        have hB1 : Below wr.heap.size wr (wr.alloc (.cells (spC (spN x)) 106)) := (Below.refl _ _).alloc (Nat.le_refl _) _
        have hbk := heap_alloc_new wr (.cells (spC (spN x)) 106)
        have HLx : Hid (∀ w', Below (wr.alloc (.cells (spC (spN x)) 106)).heap.size (wr.alloc (.cells (spC (spN x)) 106)) w' → (loadP (.pointer (some ⟨wr.heap.size, 0, none⟩))).run Tryd.prog w' = .ok (.agg (spC (spN x))) w' ∧ (loadS (.pointer (some ⟨wr.heap.size, 0, none⟩))).run Tryd.prog w' = .ok (.agg (msOf x.W).cells) w' ∧ w'.cell? ⟨wr.heap.size, 22, none⟩ = some (.string (digS x.l))) := fun w' hw =>
          ⟨loadP_mid okx fun i u hu => cell_later hw (box_cells hbk i u hu), loadS_mid okx fun i u hu => cell_later hw (box_cells hbk i u (spC_st hu)), by
            have := cell_later hw (box_cells hbk 22 _ (spC_sc (x := spN x) okx))
            rwa [Nat.zero_add] at this⟩
        have h3 := h1.later hB1
        obtain ⟨hpX, hcX⟩ := HPr.out _ _ _ h3
        have hH := HHr.out _ x hxo hpX
        obtain ⟨_, hl1, _⟩ := HLx.out _ (Below.refl _ _)
        have HS2 : Hid ((if ringW x.W = true then (x.l, 1) else srch b (b - (k + 1)) (kidsF x x.W.prog.length 0 Q1) (k + 1)) = R) := by
          rw [Hid, ← HS.out, show b - k = (b - (k + 1)) + 1 by omega, srch, hx]
        obtain ⟨r, hr1, hr2, hr3⟩ := kidsF_app hxo W0.prog.length 0 Q1 (by omega)
        have hql : (kidsF x W0.prog.length 0 Q1).length ≤ 1 + 5 * (k + 1) := by rw [hr1, List.length_append]; omega
        have hok2 : ∀ y ∈ kidsF x W0.prog.length 0 Q1, y.Ok W0 := fun y hy => by
          rw [hr1] at hy
          rcases List.mem_append.1 hy with hy | hy
          · exact hok y hy
          · exact hr3 y hy
        have HM := fun w' (hw : Below wr.heap.size wr w') => HMv.out w' _ Q1 x hxo (by omega) (h1.later hw)
        rw [hxo.prog] at HS2
        generalize hxd : wr.alloc (.cells (spC (spN x)) 106) = X2 at *
        generalize hspn : spC (spN x) = xc at *
        generalize hms : (msOf x.W).cells = mc at *
        clear hxd hspn hms hr1 hr2 hr3 hcell hcl hsx hx hbk HHr HMv HPr hpX HS
        have HM2 := show Hid _ from HM
        clear HM
        cases hrg : ringW x.W with
        | true =>
          have hR : R = (x.l, 1) := by rw [← HS2.out, if_pos hrg]
          subst hR
          rw [hrg] at hH
          go_wp2_with (first | (go_at_call 37; refine hH.mono ?_; rintro e w3 ⟨rfl, hb3⟩; obtain ⟨_, _, hsc⟩ := HLx.out _ hb3))
          go_ret2
          exact ⟨rfl, hbw.trans ((hB1.trans (hb3.mono hB1.size)).mono hbw.size)⟩
        | false =>
          rw [hrg, if_neg (by decide)] at HS2
          rw [hrg] at hH
          go_wp2_with (first
            | (go_at_call 37; refine hH.mono ?_; rintro e w3 ⟨rfl, hb3⟩; obtain ⟨hl3, _, _⟩ := HLx.out _ hb3; have hc3 := cell_later hb3 hcX)
            | (go_at_call 38; refine (HM2.out _ (hB1.trans (hb3.mono hB1.size))).mono ?_; rintro e w4 ⟨rfl, v4, h4⟩))
          go_roundw
          case rel => exact ⟨k + 1, v4, _, by omega, by go_num, h4, hok2, HS2, hql⟩
          case measure => (simp [intOf] <;> omega)
      · have kg : (Q1.length : Int) ≤ (k : Int) := by omega
        have hR : R = ([], 2) := by rw [← HS.out, show b - k = (b - (k + 1)) + 1 by omega, srch, List.getElem?_eq_none (by omega)]
        subst hR
        go_wp2
        go_ret2
        exact ⟨rfl, hbw⟩
    · have kb : ¬ (k : Int) < (b : Int) := by omega
      have hR : R = ([], if b < Q1.length then 3 else 2) := by rw [← HS.out, show b - k = 0 by omega, srch]
      subst hR
      by_cases hbq : b < Q1.length
      · have bq : (b : Int) < (Q1.length : Int) := by omega
        rw [if_pos hbq]
        go_wp2
        go_ret2
        exact ⟨rfl, hbw⟩
      · have bq : ¬ (b : Int) < (Q1.length : Int) := by omega
        rw [if_neg hbq]
        go_wp2
        go_ret2
        exact ⟨rfl, hbw⟩
end Go.Proofs.YtdfndcbakcmgiabDoor
namespace Go.Proofs.YtdfndcbakcmgiabDoor
open Go.RowKit

theorem progL_beg (s : ByteArray) (h : (ckP s).1 = 0) : (readP s).1 = progL (beginW (thLoop s 0 0 [])) := by
  rw [readP_threads s (by rw [read_eq]; exact h)]
  simp [parse, progL, beginW, madeW, Function.comp_def]
theorem begin_fst (s : ByteArray) (h : (ckP s).1 = 0) : firstM = msOf (beginW (thLoop s 0 0 [])) := by
  have I := begin_inv s h
  have hl : (beginW (thLoop s 0 0 [])).prog.length = (thLoop s 0 0 []).length := by simp [beginW, madeW]
  exact first_sim _ (thLoop_pos s _ 0 0 [] rfl) (by rw [← hl]; exact I.good.n5)
noncomputable def seaR (s : ByteArray) (b : Int) : List Nat × Int := srch b.toNat b.toNat [⟨beginW (thLoop s 0 0 []), []⟩] 0
/-- What a search answers. -/
noncomputable def seaV (s : ByteArray) (b : Int) : ByteArray × Int × Int :=
  if (ckP s).1 ≠ 0 then (⟨#[]⟩, 0, (ckP s).1) else if b < 0 ∨ 400 < b then (⟨#[]⟩, 0, 6) else (digS (seaR s b).1, (seaR s b).2, 0)

attribute [local go_sem] guardT
set_option maxRecDepth 100000 in
set_option maxHeartbeats 1000000 in
theorem Search_any (s : ByteArray) (b : Int) (w : World) :
    Calls Tryd.prog 11 #[.string s, .int .i64 b] w fun e w' => e = .returned (.tuple #[.string (seaV s b).1, .int .i64 (seaV s b).2.1, .int .i64 (seaV s b).2.2]) ∧ Below w.heap.size w w' := by
  have hR := Read_any s w
  by_cases h : (ckP s).1 = 0
  · have I0 := begin_inv s h
    have hl0 : (beginW (thLoop s 0 0 [])).log = [] := rfl
    rw [progL_beg s h, read_eq s, h] at hR
    by_cases hb : b < 0 ∨ 400 < b
    · rw [seaV, if_neg (by simpa using h), if_pos hb]
      generalize beginW (thLoop s 0 0 []) = W0 at *
      generalize (ckP s).2 = q at *
      by_cases h1 : b < 0
      · go_enter Tryd.func11, Tryd.ntmps11
        go_wp2_with (first | (go_at_call 22; refine hR.mono ?_; rintro e w1 ⟨a1, n1, c1, rfl, hb1, hpp⟩))
        go_ret3
        exact ⟨rfl, hb1.alloc hb1.size _⟩
      · have h2 : 400 < b := by omega
        go_enter Tryd.func11, Tryd.ntmps11
        go_wp2_with (first | (go_at_call 22; refine hR.mono ?_; rintro e w1 ⟨a1, n1, c1, rfl, hb1, hpp⟩))
        go_ret3
        exact ⟨rfl, hb1.alloc hb1.size _⟩
    · rw [seaV, if_neg (by simpa using h), if_neg hb, seaR]
      obtain ⟨n, rfl⟩ : ∃ n : Nat, b = n := ⟨b.toNat, by omega⟩
      rw [Int.toNat_natCast]
      have hS := fun V B w' (hp : ProgIn w' B V (progL (beginW (thLoop s 0 0 [])))) => search_any V B _ I0 hl0 (begin_fst s h) w' hp n (by omega)
      generalize srch n n [⟨beginW (thLoop s 0 0 []), []⟩] 0 = R at *
      generalize beginW (thLoop s 0 0 []) = W0 at *
      generalize (ckP s).2 = q at *
      have h1 : ¬ (n : Int) < 0 := by omega
      have h2 : ¬ 400 < (n : Int) := by omega
      go_enter Tryd.func11, Tryd.ntmps11
      go_wp2_with (first
        | (go_at_call 22; refine hR.mono ?_; rintro e w1 ⟨a1, n1, c1, rfl, hb1, hpp⟩; have hp1 := (hpp rfl).alloc (.cells #[.slice a1 n1 c1] 60))
        | (go_at_call 23; refine (hS _ _ _ hp1).mono ?_; rintro e w2 ⟨rfl, hb2⟩))
      go_ret3
      have hB1 := hb1.alloc hb1.size (.cells #[.slice a1 n1 c1] 60)
      exact ⟨rfl, hB1.trans (hb2.mono hB1.size)⟩
  · rw [seaV, if_pos (by simpa using h)]
    rw [read_eq s] at hR
    generalize (ckP s).1 = a at *
    generalize (ckP s).2 = q at *
    have ha : (a != 0) = true := by simpa using h
    go_enter Tryd.func11, Tryd.ntmps11
    go_wp2_with (first | (go_at_call 22; refine hR.mono ?_; rintro e w1 ⟨a1, n1, c1, rfl, hb1, hpp⟩))
    go_ret3
    exact ⟨rfl, hb1.alloc hb1.size _⟩
end Go.Proofs.YtdfndcbakcmgiabDoor
