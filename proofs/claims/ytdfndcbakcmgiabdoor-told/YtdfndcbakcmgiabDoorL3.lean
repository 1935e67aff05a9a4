import Derived.Test.YtdfndcbakcmgiabDoorL1
import Derived.Test.YtdfndcbakcmgiabDoorK8
namespace Go.Proofs.YtdfndcbakcmgiabDoor
open Go.RowKit

theorem goL_take : ∀ (m : List Nat) (W V : Wd) (k : Nat), goL W m = some V → ∃ U, goL W (m.take k) = some U
  | [], W, V, k, _ => ⟨W, by simp [goL]⟩
  | a :: m, W, V, 0, _ => ⟨W, by simp [goL]⟩
  | a :: m, W, V, k + 1, h => by
    simp only [goL] at h
    split at h
    · rename_i hc
      obtain ⟨U, hU⟩ := goL_take m _ V k h
      exact ⟨U, by rw [List.take_succ_cons, goL, if_pos hc]; exact hU⟩
    · cases h
theorem seaV_in (s : ByteArray) (h0 : (ckP s).1 = 0) : seaV s 400 = (digS (seaR s 400).1, (seaR s 400).2, 0) := by
  rw [seaV, if_neg (by simpa using h0), if_neg (by omega)]
theorem sea_spec (s : ByteArray) (h0 : (ckP s).1 = 0) : Sought (beginW (thLoop s 0 0 [])) 400 (seaR s 400) := by
  have := srch_start (begin_inv s h0) (begin_log0 _) 400
  rw [seaR]; exact this
/-- Said of a list of reports: of each that is Sure the schedule is no sooner. -/
def SureOk (RL : List Rp) (f : Int) (l : List Nat) : Prop := ∀ x ∈ RL, x.vd = 4 → f = 1 ∧ ∀ w, Calls Tryd.prog 16 #[.string (digS l), .string (digS x.sc)] w fun e w' => e = .returned (.bool true) ∧ Below w.heap.size w w'
def RingsAt (s : ByteArray) (ms : List Nat) (f : Int) (l : List Nat) : Prop := ∀ k, k ≤ ms.length → ∃ b, (∀ w, Calls Tryd.prog 12 #[.string s, .string (digS (ms.take k))] w fun e w' => e = .returned (.bool b) ∧ Below w.heap.size w w') ∧ (b = true → f = 1 ∧ ∀ w, Calls Tryd.prog 16 #[.string (digS l), .string (digS (ms.take k))] w fun e w' => e = .returned (.bool true) ∧ Below w.heap.size w w')

theorem Least_out (s picks : ByteArray) (w : World) (h : (ckP s).1 ≠ 0) :
    Calls Tryd.prog 5 #[.string s, .string picks] w fun e w' => e = .returned (.bool true) ∧ Below w.heap.size w w' := by
  have hIs := fun w => isProgram_no s picks w h
  go_enter Tryd.func5, Tryd.ntmps5
  go_wp2_with (first
    | (go_at_call 15; refine (hIs _).mono ?_; rintro e w1 ⟨rfl, hb1⟩))
  go_ret
  exact ⟨rfl, hb1⟩

set_option maxRecDepth 100000 in
set_option maxHeartbeats 1000000 in
theorem Least_short (s picks : ByteArray) (w : World)
    (hIs : ∀ w, Calls Tryd.prog 15 #[.string s, .string picks] w fun e w' => e = .returned (.tuple #[.bool true, .bool true]) ∧ Below w.heap.size w w')
    (hSe : ∀ w, Calls Tryd.prog 11 #[.string s, .int .i64 400] w fun e w' => e = .returned (.tuple #[.string ⟨#[]⟩, .int .i64 3, .int .i64 0]) ∧ Below w.heap.size w w') :
    Calls Tryd.prog 5 #[.string s, .string picks] w fun e w' => e = .returned (.bool true) ∧ Below w.heap.size w w' := by
  go_enter Tryd.func5, Tryd.ntmps5
  go_wp2_with (first
    | (go_at_call 15; refine (hIs _).mono ?_; rintro e w1 ⟨rfl, hb1⟩)
    | (go_at_call 11; refine (hSe _).mono ?_; rintro e w2 ⟨rfl, hb2⟩))
  go_ret
  exact ⟨rfl, hb1.trans (hb2.mono hb1.size)⟩

set_option maxRecDepth 100000 in
set_option maxHeartbeats 1000000 in
theorem Least_found (s picks : ByteArray) (w : World) (l ms : List Nat) (hl60 : l.length ≤ 60) (hms60 : ms.length ≤ 60) (hend : Int) (RL : List Rp) (hRL : RL.length ≤ 100) (mo : Bool)
    (hIs : ∀ w, Calls Tryd.prog 15 #[.string s, .string picks] w fun e w' => e = .returned (.tuple #[.bool true, .bool true]) ∧ Below w.heap.size w w')
    (hSe : ∀ w, Calls Tryd.prog 11 #[.string s, .int .i64 400] w fun e w' => e = .returned (.tuple #[.string (digS l), .int .i64 1, .int .i64 0]) ∧ Below w.heap.size w w')
    (hRun : ∀ w, Calls Tryd.prog 8 #[.string s, .string picks] w fun e w' => e = .returned (.tuple #[.string (digS ms), .int .i64 hend, .int .i64 0]) ∧ Below w.heap.size w w')
    (hPr : ∀ w, Calls Tryd.prog 10 #[.string s, .string (digS ms), .int .i64 100] w fun e w' => ∃ v us, e = .returned (.tuple #[v, .bool mo, .int .i64 0]) ∧ Below w.heap.size w w' ∧ v.ownBlock ≠ none ∧ RepsIn w' w.heap.size v RL us)
    (HK1 : Hid (∀ k, k ≤ l.length → ∀ w, Calls Tryd.prog 12 #[.string s, .string (digS (l.take k))] w fun e w' => e = .returned (.bool (decide (k = l.length))) ∧ Below w.heap.size w w'))
    (HS : Hid (SureOk RL 1 l)) (HK : Hid (RingsAt s ms 1 l)) :
    Calls Tryd.prog 5 #[.string s, .string picks] w fun e w' => e = .returned (.bool true) ∧ Below w.heap.size w w' := by
  have hsl := digS_size l
  have hsm := digS_size ms
  go_enter Tryd.func5, Tryd.ntmps5
  go_upto_region 8 with (first
    | (go_at_call 15; refine (hIs _).mono ?_; rintro e w1 ⟨rfl, hb1⟩)
    | (go_at_call 11; refine (hSe _).mono ?_; rintro e w2 ⟨rfl, hb2⟩))
  have hB2 := hb1.trans (hb2.mono hb1.size)
  clear hIs hSe hb1
  go_wp2
  go_loopw [10] (fun y wr => ∃ k : Nat, k ≤ l.length + 1 ∧ y = .int .i64 (k : Int) ∧ Below w2.heap.size w2 wr) (fun y _ => l.length + 1 - (intOf y).toNat)
  case atStart => exact ⟨0, Nat.zero_le _, rfl, Below.refl _ _⟩
  case round =>
    obtain ⟨k, hk, rfl, hBr⟩ := hrel
    by_cases hkl : k ≤ l.length
    · have kl : (k : Int) ≤ (l.length : Int) := by omega
      have k0 : (0 : Int) ≤ (k : Int) := by omega
      have hx0 := digS_take l k
      have hK := HK1.out k hkl
      by_cases he : k = l.length
      · rw [decide_eq_true he] at hK
        subst he
        generalize digS (l.take l.length) = pre at *
        go_wp2_with (first
          | (go_at_call 12; refine (hK _).mono ?_; rintro e w3 ⟨rfl, hb3⟩))
        go_roundw
        case rel => exact ⟨l.length + 1, by omega, by go_num, hBr.trans (hb3.mono hBr.size)⟩
        case measure => (simp [intOf] <;> omega)
      · rw [decide_eq_false he] at hK
        have hkI : ((k : Int) == (l.length : Int)) = false := beq_false_of_ne (by omega)
        generalize digS (l.take k) = pre at *
        go_wp2_with (first
          | (go_at_call 12; refine (hK _).mono ?_; rintro e w3 ⟨rfl, hb3⟩))
        go_roundw
        case rel => exact ⟨k + 1, by omega, by go_num, hBr.trans (hb3.mono hBr.size)⟩
        case measure => (simp [intOf] <;> omega)
    · have kl : ¬ (k : Int) ≤ (l.length : Int) := by omega
      have hBwr := hB2.trans (hBr.mono hB2.size)
      go_upto_region 18 with (first
        | (go_at_call 8; refine (hRun _).mono ?_; rintro e w4 ⟨rfl, hb4⟩)
        | (go_at_call 10; refine (hPr _).mono ?_; rintro e w5 ⟨v, us, rfl, hb5, hvn, hR5⟩))
      obtain ⟨gv, cv, hv2⟩ := row_form (hR5.fam.own (List.mem_cons_self ..)) hvn
      have hv3 : v = .slice (some ⟨gv, 0, none⟩) RL.length cv := hv2
      subst hv3
      have hrp := reps_at rfl hR5
      have hB4 := hBwr.trans (hb4.mono hBwr.size)
      have hB5 := hB4.trans (hb5.mono hB4.size)
      clear hRun hPr hR5 hvn hv2 hb4 hb5
      go_wp2
      go_loopw [18] (fun y wr => ∃ i : Nat, i ≤ RL.length ∧ y = .int .i64 (i : Int) ∧ Below w5.heap.size w5 wr) (fun y _ => RL.length - (intOf y).toNat)
      case atStart => exact ⟨0, Nat.zero_le _, rfl, Below.refl _ _⟩
      case round =>
        obtain ⟨i, hi, rfl, hBs⟩ := hrel
        by_cases hil : i < RL.length
        · obtain ⟨x, hx⟩ := get_some RL i hil
          have hSu := HS.out x (List.mem_of_getElem? hx)
          obtain ⟨G, b, cb, e1, _, c1, c2, _⟩ := (hrp.below hBs) i x hx
          simp only [Option.some.injEq, Addr.mk.injEq, and_true] at e1
          subst e1
          have i0 : (0 : Int) ≤ (i : Int) := by omega
          have il : (i : Int) < (RL.length : Int) := by omega
          clear hx hrp
          by_cases h4 : x.vd = 4
          · have hE := (hSu h4).2
            obtain ⟨xa, xv, xs⟩ := x
            simp only at *
            subst h4
            clear hSu
            go_wp2_with (first
              | (go_at_call 16; refine (hE _).mono ?_; rintro e w6 ⟨rfl, hb6⟩))
            go_roundw
            case rel => exact ⟨i + 1, by omega, by go_num, hBs.trans (hb6.mono hBs.size)⟩
            case measure => (simp [intOf] <;> omega)
          · have hnb4 : (x.vd == 4) = false := beq_false_of_ne h4
            obtain ⟨xa, xv, xs⟩ := x
            simp only at *
            clear hSu
            go_wp2
            go_roundw
            case rel => exact ⟨i + 1, by omega, by go_num, hBs⟩
            case measure => (simp [intOf] <;> omega)
        · have il : ¬ (i : Int) < (RL.length : Int) := by omega
          have hBws := hB5.trans (hBs.mono hB5.size)
          clear hrp
          go_wp2
          go_loopw [20] (fun y wq => ∃ j : Nat, j ≤ ms.length + 1 ∧ y = .int .i64 (j : Int) ∧ Below wr.heap.size wr wq) (fun y _ => ms.length + 1 - (intOf y).toNat)
          case atStart => exact ⟨0, Nat.zero_le _, rfl, Below.refl _ _⟩
          case round =>
            obtain ⟨j, hj, rfl, hBq⟩ := hrel
            have hBwq := hBws.trans (hBq.mono hBws.size)
            by_cases hjl : j ≤ ms.length
            · have jl : (j : Int) ≤ (ms.length : Int) := by omega
              have j0 : (0 : Int) ≤ (j : Int) := by omega
              have hx1 := digS_take ms j
              obtain ⟨b, hK, hKE⟩ := HK.out j hjl
              generalize digS (ms.take j) = pre at *
              cases b with
              | false =>
                go_wp2_with (first
                  | (go_at_call 12; refine (hK _).mono ?_; rintro e w7 ⟨rfl, hb7⟩))
                go_roundw
                case rel => exact ⟨j + 1, by omega, by go_num, hBq.trans (hb7.mono hBq.size)⟩
                case measure => (simp [intOf] <;> omega)
              | true =>
                have hE := (hKE rfl).2
                clear hKE
                go_wp2_with (first
                  | (go_at_call 12; refine (hK _).mono ?_; rintro e w7 ⟨rfl, hb7⟩)
                  | (go_at_call 16; refine (hE _).mono ?_; rintro e w8 ⟨rfl, hb8⟩))
                go_ret
                have hb78 := hb7.trans (hb8.mono hb7.size)
                exact ⟨rfl, hBwq.trans (hb78.mono hBwq.size)⟩
            · have jl : ¬ (j : Int) ≤ (ms.length : Int) := by omega
              go_wp2
              go_ret
              exact ⟨rfl, hBwq⟩
end Go.Proofs.YtdfndcbakcmgiabDoor
namespace Go.Proofs.YtdfndcbakcmgiabDoor
open Go.RowKit

set_option maxRecDepth 100000 in
set_option maxHeartbeats 1000000 in
theorem Least_none (s picks : ByteArray) (w : World) (ms : List Nat) (hms60 : ms.length ≤ 60) (hend : Int) (RL : List Rp) (hRL : RL.length ≤ 100) (mo : Bool)
    (hIs : ∀ w, Calls Tryd.prog 15 #[.string s, .string picks] w fun e w' => e = .returned (.tuple #[.bool true, .bool true]) ∧ Below w.heap.size w w')
    (hSe : ∀ w, Calls Tryd.prog 11 #[.string s, .int .i64 400] w fun e w' => e = .returned (.tuple #[.string ⟨#[]⟩, .int .i64 2, .int .i64 0]) ∧ Below w.heap.size w w')
    (hRun : ∀ w, Calls Tryd.prog 8 #[.string s, .string picks] w fun e w' => e = .returned (.tuple #[.string (digS ms), .int .i64 hend, .int .i64 0]) ∧ Below w.heap.size w w')
    (hPr : ∀ w, Calls Tryd.prog 10 #[.string s, .string (digS ms), .int .i64 100] w fun e w' => ∃ v us, e = .returned (.tuple #[v, .bool mo, .int .i64 0]) ∧ Below w.heap.size w w' ∧ v.ownBlock ≠ none ∧ RepsIn w' w.heap.size v RL us)
    (HS : Hid (∀ x ∈ RL, x.vd ≠ 4))
    (HK : Hid (∀ k, k ≤ ms.length → ∀ w, Calls Tryd.prog 12 #[.string s, .string (digS (ms.take k))] w fun e w' => e = .returned (.bool false) ∧ Below w.heap.size w w')) :
    Calls Tryd.prog 5 #[.string s, .string picks] w fun e w' => e = .returned (.bool true) ∧ Below w.heap.size w w' := by
  have hsm := digS_size ms
  go_enter Tryd.func5, Tryd.ntmps5
  go_upto_region 18 with (first
    | (go_at_call 15; refine (hIs _).mono ?_; rintro e w1 ⟨rfl, hb1⟩)
    | (go_at_call 11; refine (hSe _).mono ?_; rintro e w2 ⟨rfl, hb2⟩)
    | (go_at_call 8; refine (hRun _).mono ?_; rintro e w4 ⟨rfl, hb4⟩)
    | (go_at_call 10; refine (hPr _).mono ?_; rintro e w5 ⟨v, us, rfl, hb5, hvn, hR5⟩))
  obtain ⟨gv, cv, hv2⟩ := row_form (hR5.fam.own (List.mem_cons_self ..)) hvn
  have hv3 : v = .slice (some ⟨gv, 0, none⟩) RL.length cv := hv2
  subst hv3
  have hrp := reps_at rfl hR5
  have hB2 := hb1.trans (hb2.mono hb1.size)
  have hB4 := hB2.trans (hb4.mono hB2.size)
  have hB5 := hB4.trans (hb5.mono hB4.size)
  clear hIs hSe hRun hPr hR5 hvn hv2 hb1 hb4 hb5
  go_wp2
  go_loopw [18] (fun y wr => ∃ i : Nat, i ≤ RL.length ∧ y = .int .i64 (i : Int) ∧ Below w5.heap.size w5 wr) (fun y _ => RL.length - (intOf y).toNat)
  case atStart => exact ⟨0, Nat.zero_le _, rfl, Below.refl _ _⟩
  case round =>
    obtain ⟨i, hi, rfl, hBs⟩ := hrel
    by_cases hil : i < RL.length
    · obtain ⟨x, hx⟩ := get_some RL i hil
      have h4 := HS.out x (List.mem_of_getElem? hx)
      obtain ⟨G, b, cb, e1, _, c1, c2, _⟩ := (hrp.below hBs) i x hx
      simp only [Option.some.injEq, Addr.mk.injEq, and_true] at e1
      subst e1
      have i0 : (0 : Int) ≤ (i : Int) := by omega
      have il : (i : Int) < (RL.length : Int) := by omega
      clear hx hrp
      have hnb4 : (x.vd == 4) = false := beq_false_of_ne h4
      obtain ⟨xa, xv, xs⟩ := x
      simp only at *
      go_wp2
      go_roundw
      case rel => exact ⟨i + 1, by omega, by go_num, hBs⟩
      case measure => (simp [intOf] <;> omega)
    · have il : ¬ (i : Int) < (RL.length : Int) := by omega
      have hBws := hB5.trans (hBs.mono hB5.size)
      clear hrp
      go_wp2
      go_loopw [20] (fun y wq => ∃ j : Nat, j ≤ ms.length + 1 ∧ y = .int .i64 (j : Int) ∧ Below wr.heap.size wr wq) (fun y _ => ms.length + 1 - (intOf y).toNat)
      case atStart => exact ⟨0, Nat.zero_le _, rfl, Below.refl _ _⟩
      case round =>
        obtain ⟨j, hj, rfl, hBq⟩ := hrel
        have hBwq := hBws.trans (hBq.mono hBws.size)
        by_cases hjl : j ≤ ms.length
        · have jl : (j : Int) ≤ (ms.length : Int) := by omega
          have j0 : (0 : Int) ≤ (j : Int) := by omega
          have hx1 := digS_take ms j
          have hK := HK.out j hjl
          generalize digS (ms.take j) = pre at *
          go_wp2_with (first
            | (go_at_call 12; refine (hK _).mono ?_; rintro e w7 ⟨rfl, hb7⟩))
          go_roundw
          case rel => exact ⟨j + 1, by omega, by go_num, hBq.trans (hb7.mono hBq.size)⟩
          case measure => (simp [intOf] <;> omega)
        · have jl : ¬ (j : Int) ≤ (ms.length : Int) := by omega
          go_wp2
          go_ret
          exact ⟨rfl, hBwq⟩

theorem Least_walk (s picks : ByteArray) (w : World) :
    Calls Tryd.prog 5 #[.string s, .string picks] w fun e w' => e = .returned (.bool true) ∧ Below w.heap.size w w' := by
  by_cases h : (ckP s).1 ≠ 0
  · exact Least_out s picks w h
  have h0 : (ckP s).1 = 0 := by omega
  have I0 := begin_inv s h0
  obtain ⟨ms, hend, WE, hr⟩ := runs_ex picks _ (beginW (thLoop s 0 0 [])) 0 I0 rfl
  have hE := hr.ends I0
  have hto0 : toLoop ⟨#[]⟩ (beginW (thLoop s 0 0 [])) 0 = some (beginW (thLoop s 0 0 [])) := by rw [toLoop, if_neg (by simp [ByteArray.size])]
  have hg := hr.goes
  obtain ⟨hlen, hms5⟩ := goL_60 I0 hg
  have hV : resumeV s ⟨#[]⟩ picks = .tuple #[.string (digS ms), .int .i64 hend, .int .i64 0] := by
    rw [resumeV, if_neg (by rw [h0]; decide), hto0]
    simp only [hr.resumeL 61 [] rfl (by omega), List.nil_append]
  have hRun := fun w => run_any s picks w
  rw [hV] at hRun
  have hIs := fun w => isProgram_yes s picks (digS ms) hend w h0 hV hE.range.1 hE.range.2
  have hto : toLoop (digS ms) (beginW (thLoop s 0 0 [])) 0 = some WE := by
    rw [toLoop_dig _ I0 _ (fun t ht => by have := hms5 t ht; omega)]; exact hg
  have hszk : (digS ms).size ≤ maxLen := by rw [digS_size]; unfold maxLen; omega
  have hPr : ∀ w, Calls Tryd.prog 10 #[.string s, .string (digS ms), .int .i64 100] w fun e w' => ∃ v us, e = .returned (.tuple #[v, .bool (findS (aqsW WE) 100).2, .int .i64 0]) ∧ Below w.heap.size w w' ∧ v.ownBlock ≠ none ∧ RepsIn w' w.heap.size v ((findS (aqsW WE) 100).1.map (rpOf WE.log (aqsW WE))) us := fun w => predict_ok s (digS ms) hszk 100 (Nat.le_refl _) w h0 WE hto
  have hRLl : ((findS (aqsW WE) 100).1.map (rpOf WE.log (aqsW WE))).length ≤ 100 := by rw [List.length_map]; exact findS_ok _ _
  have hSu : ∀ x ∈ (findS (aqsW WE) 100).1.map (rpOf WE.log (aqsW WE)), x.vd = 4 → ∃ V, goL (beginW (thLoop s 0 0 [])) x.sc = some V ∧ ringW V = true := fun x hx hv => by
    obtain ⟨p, hp, rfl⟩ := List.mem_map.1 hx
    exact sure_found _ I0 hg p hp hv
  have hRing : ∀ (l : List Nat) (V : Wd), goL (beginW (thLoop s 0 0 [])) l = some V → ∀ w, Calls Tryd.prog 12 #[.string s, .string (digS l)] w fun e w' => e = .returned (.bool (ringW V)) ∧ Below w.heap.size w w' := fun l V hV w => by
    obtain ⟨h1, h2⟩ := goL_60 I0 hV
    exact lawRing_any s h0 l (fun t ht => by have := h2 t ht; omega) (by omega) V hV w
  have hSe := fun w => Search_any s 400 w
  rw [seaV_in s h0] at hSe
  have hSp := sea_spec s h0
  generalize seaR s 400 = r at *
  obtain ⟨l, f⟩ := r
  cases hSp with
  | found V e1 hgo hrg hlt hmin =>
    simp only at e1 hgo hlt hmin hSe
    subst e1
    obtain ⟨hl60, hl5⟩ := goL_60 I0 hgo
    have hEar : ∀ (m : List Nat) (U : Wd), goL (beginW (thLoop s 0 0 [])) m = some U → ringW U = true → ∀ w, Calls Tryd.prog 16 #[.string (digS l), .string (digS m)] w fun e w' => e = .returned (.bool true) ∧ Below w.heap.size w w' := fun m U hU hrU w => by
      obtain ⟨h1, h2⟩ := goL_60 I0 hU
      exact earlier_any l m (by omega) (by omega) (fun t ht => by have := hl5 t ht; omega) (fun t ht => by have := h2 t ht; omega) (hmin m U hU hrU) w
    refine Least_found s picks w l ms hl60 hlen hend _ hRLl _ hIs hSe hRun hPr (fun k hk w => ?_) (fun x hx hv => ?_) (fun k hk => ?_)
    · obtain ⟨U, hU⟩ := goL_take _ _ _ k hgo
      have hC := hRing _ _ hU w
      by_cases he : k = l.length
      · rw [decide_eq_true he]
        rw [he, List.take_length, hgo] at hU
        cases hU
        rw [hrg] at hC; exact hC
      · rw [decide_eq_false he]
        have : ringW U = false := by
          rw [Bool.eq_false_iff]
          intro hrU
          have h1 := sv_le_len (fun t ht => by have := hl5 t (List.mem_of_mem_take ht); omega) (hmin _ U hU hrU)
          rw [List.length_take] at h1
          omega
        rw [this] at hC; exact hC
    · obtain ⟨U, hU, hrU⟩ := hSu x hx hv
      exact ⟨rfl, hEar _ U hU hrU⟩
    · obtain ⟨U, hU⟩ := goL_take _ _ _ k hg
      exact ⟨ringW U, hRing _ _ hU, fun hb => ⟨rfl, hEar _ U hU hb⟩⟩
  | none e1 e2 hno =>
    simp only at e1 e2 hSe
    subst e1 e2
    refine Least_none s picks w ms hlen hend _ hRLl _ hIs hSe hRun hPr (fun x hx hv => ?_) (fun k hk w => ?_)
    · obtain ⟨U, hU, hrU⟩ := hSu x hx hv
      rw [hno _ U hU] at hrU; cases hrU
    · obtain ⟨U, hU⟩ := goL_take _ _ _ k hg
      have hC := hRing _ _ hU w
      rw [hno _ U hU] at hC; exact hC
  | short Q e1 e2 _ _ _ =>
    simp only at e1 e2 hSe
    subst e1 e2
    exact Least_short s picks w hIs hSe
end Go.Proofs.YtdfndcbakcmgiabDoor
