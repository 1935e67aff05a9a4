import Derived.Test.YtdfndcbakcmgiaaS2
import Derived.Test.YtdfndcbakcmgiaaReplays
namespace Go.Proofs.Ytdfndcbakcmgiaa
open Go.RowKit

def behindS (p : ByteArray) (k : Nat) : ByteArray := if p.size ≤ k then ⟨#[]⟩ else p.extract k p.size
theorem behind_byte (p : ByteArray) (k a : Nat) : byteI (behindS p k) a = byteI p (k + a) := by
  unfold behindS
  split
  · rename_i h
    rw [byteI, dif_neg (by simp [ByteArray.size]), byteI, dif_neg (by omega)]
  · rename_i h
    rw [byteI_extract p k p.size a (Nat.le_refl _)]
    split
    · rfl
    · rw [byteI, dif_neg (by omega)]
theorem behind_any (p : ByteArray) (k : Nat) (i : Int) (hi : i = k) (w : World) : Calls Try.prog 37 #[.string p, .int .i64 i] w fun e w' => e = .returned (.string (behindS p k)) ∧ w' = w := by
  subst hi
  by_cases h : p.size ≤ k
  · have e : behindS p k = ⟨#[]⟩ := by rw [behindS, if_pos h]
    rw [e]
    go_enter Try.func37, Try.ntmps37
    go_wp2
    go_ret
    exact ⟨rfl, rfl⟩
  · have e : behindS p k = p.extract k p.size := by rw [behindS, if_neg h]
    rw [e]
    have k0 : (0 : Int) ≤ (k : Int) := by omega
    have kl : (k : Int) ≤ (p.size : Int) := by omega
    have hle : k ≤ p.size := by omega
    go_enter Try.func37, Try.ntmps37
    go_wp2
    go_ret
    exact ⟨rfl, rfl⟩

set_option maxHeartbeats 400000 in
theorem digit_any (t : Nat) (w : World) (ht : (t : Int) ≤ 100) :
    Calls Try.prog 69 #[.int .i64 t] w fun e w' => e = .returned (.string (nameS t)) ∧ Below w.heap.size w w' := by
  have hc := conv1 w (48 + t)
  have hn : (⟨#[UInt8.ofNat ((48 : Int) + t).toNat]⟩ : ByteArray) = nameS t := by
    rw [nameS]; congr 3
  rw [hn] at hc
  clear hn
  go_enter Try.func69, Try.ntmps69
  go_wp2
  go_ret
  exact ⟨rfl, (Below.refl _ _).alloc (Nat.le_refl _) _⟩

theorem lit0_V' : resumeV ⟨#[62, 49, 59, 97, 98]⟩ ⟨#[]⟩ ⟨#[]⟩ = .tuple #[.string ⟨#[48, 49, 49]⟩, .int .i64 1, .int .i64 0] := lit0_V

set_option maxRecDepth 100000 in
set_option maxHeartbeats 2000000 in
theorem isProgram_no (s picks : ByteArray) (w : World) (h : (ckP s).1 ≠ 0) :
    Calls Try.prog 35 #[.string s, .string picks] w fun e w' => e = .returned (.tuple #[.bool false, .bool true]) ∧ Below w.heap.size w w' := by
  have hR := fun (x y : ByteArray) w => run_any x y w
  have hC := fun w => Check_any s w
  rw [read_eq s] at hC
  have hV : resumeV s ⟨#[]⟩ picks = .tuple #[.string ⟨#[]⟩, .int .i64 0, .int .i64 (ckP s).1] := by rw [resumeV, if_pos h]
  generalize (ckP s).1 = a at *
  generalize (ckP s).2 = b at *
  have HV : Hid (resumeV s ⟨#[]⟩ picks = .tuple #[.string ⟨#[]⟩, .int .i64 0, .int .i64 a]) := hV
  have ha : (a == 0) = false := beq_false_of_ne h
  clear hV
  go_enter Try.func35, Try.ntmps35
  go_wp2_with (first
    | (go_at_call 16; refine (hR _ _ _).mono ?_; first | (rintro e w1 ⟨he, hb1⟩; rw [lit0_V'] at he; subst he) | (rintro e w3 ⟨he, hb3⟩; rw [HV.out] at he; subst he))
    | (go_at_call 14; refine (hC _).mono ?_; rintro e w2 ⟨rfl, hb2⟩))
  go_ret2
  exact ⟨rfl, (hb1.trans (hb2.mono hb1.size)).trans (hb3.mono (Nat.le_trans hb1.size hb2.size))⟩

set_option maxRecDepth 100000 in
set_option maxHeartbeats 2000000 in
theorem isProgram_yes (s picks out : ByteArray) (how : Int) (w : World) (h : (ckP s).1 = 0) (hV : resumeV s ⟨#[]⟩ picks = .tuple #[.string out, .int .i64 how, .int .i64 0]) (h1 : 1 ≤ how) (h3 : how ≤ 3) :
    Calls Try.prog 35 #[.string s, .string picks] w fun e w' => e = .returned (.tuple #[.bool true, .bool true]) ∧ Below w.heap.size w w' := by
  have hR := fun (x y : ByteArray) w => run_any x y w
  have hC := fun w => Check_any s w
  rw [read_eq s, h] at hC
  generalize (ckP s).2 = b at *
  have HV : Hid (resumeV s ⟨#[]⟩ picks = .tuple #[.string out, .int .i64 how, .int .i64 0]) := hV
  clear hV
  go_enter Try.func35, Try.ntmps35
  go_wp2_with (first
    | (go_at_call 16; refine (hR _ _ _).mono ?_; first | (rintro e w1 ⟨he, hb1⟩; rw [lit0_V'] at he; subst he) | (rintro e w3 ⟨he, hb3⟩; rw [HV.out] at he; subst he))
    | (go_at_call 14; refine (hC _).mono ?_; rintro e w2 ⟨rfl, hb2⟩))
  go_ret2
  exact ⟨rfl, (hb1.trans (hb2.mono hb1.size)).trans (hb3.mono (Nat.le_trans hb1.size hb2.size))⟩

/-- How a run that leads to these threads must have ended. -/
def endingL (l : List Th) (t : Nat) (how : Int) : Int :=
  if h : t < l.length then
    if l[t].state = 5 then 3 else if l[t].state = 1 then 0 else endingL l (t + 1) (if l[t].state = 2 ∨ l[t].state = 3 then 2 else how)
  else how
termination_by l.length - t

set_option maxRecDepth 100000 in
set_option maxHeartbeats 2000000 in
theorem ending_any (l : List Th) (hl5 : l.length ≤ 5) (fl : ByteArray) (a : Option Addr) (ca : Nat) (w : World) (hA : ThsIn w a l) :
    Calls Try.prog 36 #[.agg #[.slice a l.length ca, .string fl]] w fun e w' => e = .returned (.int .i64 (endingL l 0 1)) ∧ Below w.heap.size w w' := by
  generalize hres : endingL l 0 1 = res
  have HR : Hid (endingL l 0 1 = res) := hres
  clear hres
  go_enter Try.func36, Try.ntmps36
  go_wp2
  go_loopw [3, 4] (fun h i wr => ∃ (t : Nat) (how : Int), t ≤ l.length ∧ h = .int .i64 how ∧ i = .int .i64 t ∧ Hid (endingL l t how = res) ∧ wr = w.alloc (.cells #[.slice a l.length ca, .string fl] 32)) (fun _ i _ => l.length - (intOf i).toNat)
  case atStart => exact ⟨0, 1, by omega, rfl, rfl, HR, rfl⟩
  case round =>
    obtain ⟨t, how, ht, rfl, rfl, HE, hw⟩ := hrel
    have fA : wr.cell? ⟨w.heap.size, 0, none⟩ = some (.slice a l.length ca) := by rw [hw]; exact cellB (heap_alloc_new _ _) rfl
    have hB : Below w.heap.size w wr := by rw [hw]; exact (Below.refl _ _).alloc (Nat.le_refl _) _
    have HW : Hid (wr = w.alloc (.cells #[.slice a l.length ca, .string fl] 32)) := hw
    clear hw HR
    by_cases htn : t < l.length
    · have hx : l[t]? = some l[t] := by simp [htn]
      obtain ⟨g, hga, c0, _, _, _⟩ := (hA.below hB) t _ hx
      have HE1 : Hid ((if l[t].state = 5 then 3 else if l[t].state = 1 then 0 else endingL l (t + 1) (if l[t].state = 2 ∨ l[t].state = 3 then 2 else how)) = res) := by
        have h := HE.out
        rw [endingL, dif_pos htn] at h
        exact h
      clear HE hx
      generalize l[t].state = st at *
      subst hga
      have t0 : (0 : Int) ≤ (t : Int) := by omega
      have tl : (t : Int) < (l.length : Int) := by omega
      by_cases s5 : st = 5
      · subst s5
        have hres : res = 3 := by have h := HE1.out; rw [if_pos rfl] at h; exact h.symm
        subst hres
        clear HE1
        go_wp2
        go_ret
        exact ⟨rfl, hB⟩
      by_cases s1 : st = 1
      · subst s1
        have hres : res = 0 := by have h := HE1.out; rw [if_neg (by decide), if_pos rfl] at h; exact h.symm
        subst hres
        clear HE1
        go_wp2
        go_ret
        exact ⟨rfl, hB⟩
      have HE2 : Hid (endingL l (t + 1) (if st = 2 ∨ st = 3 then 2 else how) = res) := by have h := HE1.out; rw [if_neg s5, if_neg s1] at h; exact h
      clear HE1
      by_cases s23 : st = 2 ∨ st = 3
      · rw [if_pos s23] at HE2
        rcases s23 with rfl | rfl
        all_goals
          go_wp2
          go_roundw
          case rel => exact ⟨t + 1, 2, by omega, rfl, rfl, HE2, HW.out⟩
          case measure => simp [intOf]; omega
      · rw [if_neg s23] at HE2
        have b5 : (st == 5) = false := beq_false_of_ne s5
        have b1 : (st == 1) = false := beq_false_of_ne s1
        have b2 : (st == 2) = false := beq_false_of_ne (fun h => s23 (.inl h))
        have b3 : (st == 3) = false := beq_false_of_ne (fun h => s23 (.inr h))
        go_wp2
        go_roundw
        case rel => exact ⟨t + 1, how, by omega, rfl, rfl, HE2, HW.out⟩
        case measure => simp [intOf]; omega
    · have hres : res = how := by have h := HE.out; rw [endingL, dif_neg htn] at h; exact h.symm
      subst hres
      have tl : ¬ (t : Int) < (l.length : Int) := by omega
      clear HE
      go_wp2
      go_ret
      exact ⟨rfl, hB⟩
end Go.Proofs.Ytdfndcbakcmgiaa
namespace Go.Proofs.Ytdfndcbakcmgiaa
open Go.RowKit

/-- What Replay answers behind some moves. -/
theorem replay_go (s : ByteArray) (h0 : (ckP s).1 = 0) (l : List Nat) (hl : ∀ t ∈ l, t ≤ 100) (hlen : l.length ≤ 1000) (V : Wd) (hV : goL (beginW (thLoop s 0 0 [])) l = some V) (w : World) :
    Calls Try.prog 19 #[.string s, .string (digS l)] w fun e w' => ReplayOut w w' e (thsOf V V.prog.length) (flagsLoop V.set 0 ⟨#[]⟩) 0 := by
  have I0 := begin_inv s h0
  have hW : toLoop (digS l) (beginW (thLoop s 0 0 [])) 0 = some V := by rw [toLoop_dig _ I0 l hl]; exact hV
  have hsz : (digS l).size ≤ maxLen := by rw [digS_size]; unfold maxLen; omega
  have hln : (thsOf V V.prog.length).length = V.prog.length := thsOf_len V _
  refine (replay_ok s (digS l) hsz w h0 V hW).mono ?_
  rintro e w1 ⟨g, cap, rfl, hb, ho⟩
  refine ⟨some ⟨g, 0, none⟩, cap, by rw [hln], hb, ?_, fun h => absurd rfl h⟩
  refine thsIn_of (B := w.heap.size + 1) (cap := cap) ?_
  rw [hln]
  exact ho
theorem replay_not (s : ByteArray) (h0 : (ckP s).1 = 0) (sch : ByteArray) (hsz : sch.size ≤ maxLen) (hW : toLoop sch (beginW (thLoop s 0 0 [])) 0 = none) (w : World) :
    Calls Try.prog 19 #[.string s, .string sch] w fun e w' => e = .returned (badV 5) ∧ Below w.heap.size w w' :=
  replay_bad s sch w 5 (by decide) (fun w => follow_none s sch hsz w h0 hW)

/-- The error of Replay behind a schedule and one more digit. -/
theorem replay_next (s : ByteArray) (h0 : (ckP s).1 = 0) (l : List Nat) (hl : ∀ t ∈ l, t ≤ 100) (hlen : l.length ≤ 900) (V : Wd) (hV : goL (beginW (thLoop s 0 0 [])) l = some V) (t : Nat) (ht : t ≤ 9) (w : World) :
    Calls Try.prog 19 #[.string s, .string (digS (l ++ [t]))] w fun e w' => ∃ a n c fl, e = .returned (.tuple #[.agg #[.slice a n c, .string fl], .int .i64 (if t < V.prog.length ∧ stateOf V t = 1 then 0 else 5)]) ∧ Below w.heap.size w w' := by
  have I0 := begin_inv s h0
  have hl' : ∀ x ∈ l ++ [t], x ≤ 100 := fun x hx => by
    rcases List.mem_append.1 hx with hx | hx
    · exact hl x hx
    · simp at hx; omega
  have hg := goL_snoc l (beginW (thLoop s 0 0 [])) t
  rw [hV, Option.bind_some] at hg
  by_cases hc : t < V.prog.length ∧ stateOf V t = 1
  · rw [if_pos hc] at hg ⊢
    refine (replay_go s h0 (l ++ [t]) hl' (by simp; omega) _ hg w).mono ?_
    rintro e w1 ⟨a, c, rfl, hb, _⟩
    exact ⟨a, _, c, _, rfl, hb⟩
  · rw [if_neg hc] at hg ⊢
    refine (replay_not s h0 (digS (l ++ [t])) (by rw [digS_size]; unfold maxLen; simp; omega) (by rw [toLoop_dig _ I0 _ hl']; exact hg) w).mono ?_
    rintro e w1 ⟨rfl, hb⟩
    exact ⟨none, 0, 0, _, rfl, hb⟩
theorem replay_slash (s : ByteArray) (h0 : (ckP s).1 = 0) (l : List Nat) (hl : ∀ t ∈ l, t ≤ 100) (hlen : l.length ≤ 900) (w : World) :
    Calls Try.prog 19 #[.string s, .string (digS l ++ ⟨#[47]⟩)] w fun e w' => e = .returned (badV 5) ∧ Below w.heap.size w w' :=
  replay_not s h0 _ (by rw [ByteArray.size_append, digS_size]; unfold maxLen; simp [ByteArray.size]; omega) (toLoop_slash _ (begin_inv s h0) l hl _ rfl) w

theorem thsOf_get (V : Wd) (n t : Nat) (h : t < n) : (thsOf V n)[t]? = some (thOf V t) := by simp [thsOf, h]

set_option maxRecDepth 100000 in
set_option maxHeartbeats 4000000 in
theorem mayNext_any (s : ByteArray) (h0 : (ckP s).1 = 0) (l : List Nat) (hl : ∀ t ∈ l, t ≤ 100) (hlen : l.length ≤ 900) (V : Wd) (hV : goL (beginW (thLoop s 0 0 [])) l = some V) (w : World) :
    Calls Try.prog 38 #[.string s, .string (digS l)] w fun e w' => e = .returned (.bool true) ∧ Below w.heap.size w w' := by
  have IV := (goL_inv l _ V (begin_inv s h0) hV).1
  have h5 := IV.good.n5
  have hR := fun w => replay_go s h0 l hl (by omega) V hV w
  have hN := fun t (ht : t ≤ 9) w => replay_next s h0 l hl hlen V hV t ht w
  have hS := fun w => replay_slash s h0 l hl hlen w
  have hln : (thsOf V V.prog.length).length = V.prog.length := thsOf_len V _
  have hget := thsOf_get V V.prog.length
  generalize hths : thsOf V V.prog.length = ths at *
  have hods := digS_size l
  have HLN : Hid (ths.length = V.prog.length) := hln
  clear hV hl h0 hths IV hln
  go_enter Try.func38, Try.ntmps38
  go_wp2_with (first | (go_at_call 19; refine (hR _).mono ?_; rintro e w1 ⟨a, c, rfl, hb, hA, _⟩))
  go_loopw [7] (fun i wr => ∃ t : Nat, t ≤ 10 ∧ i = .int .i64 t ∧ Below (w1.heap.size + 1) (w1.alloc (.cells #[.slice a ths.length c, .string (flagsLoop V.set 0 ⟨#[]⟩)] 32)) wr) (fun i _ => 10 - (intOf i).toNat)
  case atStart => exact ⟨0, by omega, rfl, Below.refl _ _⟩
  case round =>
    obtain ⟨t, ht, rfl, hB⟩ := hrel
    have hb1s : (w1.alloc (.cells #[.slice a ths.length c, .string (flagsLoop V.set 0 ⟨#[]⟩)] 32)).heap.size = w1.heap.size + 1 := by simp
    have hB' : Below (w1.alloc (.cells #[.slice a ths.length c, .string (flagsLoop V.set 0 ⟨#[]⟩)] 32)).heap.size (w1.alloc (.cells #[.slice a ths.length c, .string (flagsLoop V.set 0 ⟨#[]⟩)] 32)) wr := by rw [hb1s]; exact hB
    obtain ⟨hc, hz, hlt, hBw⟩ := below_new hB'
    have f0 : wr.cell? ⟨w1.heap.size, 0, none⟩ = some (.slice a ths.length c) := hc 0 _ rfl
    clear hc hz
    by_cases htn : t < 10
    · have hD := fun w => digit_any t w (by omega)
      have hsn := digS_snoc l t
      have hns := nameS_size t
      have hN1 := hN t (by omega)
      by_cases hc1 : t < V.prog.length
      · obtain ⟨g, hga, c0, _, _, _⟩ := (hA.below hBw) t _ (hget t hc1)
        have hst : (thOf V t).state = stateOf V t := rfl
        rw [hst] at c0
        subst hga
        have t0 : (0 : Int) ≤ (t : Int) := by omega
        have tl : (t : Int) < (ths.length : Int) := by have := HLN.out; omega
        have htl : t < ths.length := by omega
        by_cases hs1 : stateOf V t = 1
        · rw [if_pos ⟨hc1, hs1⟩] at hN1
          rw [hs1] at c0
          clear hst hN
          go_wp2_with (first
            | (go_at_call 69; refine (hD _).mono ?_; rintro e w2 ⟨rfl, hb2⟩; have f2 := cell_later hb2 f0; have c2 := cell_later hb2 c0)
            | (go_at_call 19; refine (hN1 _).mono ?_; rintro e w3 ⟨a3, n3, c3, fl3, rfl, hb3⟩; have f3 := cell_later hb3 f2; have c3' := cell_later hb3 c2; have l3 := World.block_lt_of_cell? _ _ f3; have l4 := World.block_lt_of_cell? _ _ c3'; simp only at l3 l4))
          go_roundw
          case rel =>
            have hx := hb2.trans (hb3.mono hb2.size)
            exact ⟨t + 1, by omega, rfl, hB.trans ((hx.alloc hx.size _).mono hlt)⟩
          case measure => simp [intOf]; omega
        · rw [if_neg (fun h => hs1 h.2)] at hN1
          have b1 : (stateOf V t == 1) = false := beq_false_of_ne hs1
          generalize stateOf V t = st at *
          clear hst hN
          go_wp2_with (first
            | (go_at_call 69; refine (hD _).mono ?_; rintro e w2 ⟨rfl, hb2⟩; have f2 := cell_later hb2 f0; have c2 := cell_later hb2 c0)
            | (go_at_call 19; refine (hN1 _).mono ?_; rintro e w3 ⟨a3, n3, c3, fl3, rfl, hb3⟩; have f3 := cell_later hb3 f2; have c3' := cell_later hb3 c2; have l3 := World.block_lt_of_cell? _ _ f3; have l4 := World.block_lt_of_cell? _ _ c3'; simp only at l3 l4))
          go_roundw
          case rel =>
            have hx := hb2.trans (hb3.mono hb2.size)
            exact ⟨t + 1, by omega, rfl, hB.trans ((hx.alloc hx.size _).mono hlt)⟩
          case measure => simp [intOf]; omega
      · rw [if_neg (fun h => hc1 h.1)] at hN1
        have tl : ¬ (t : Int) < (ths.length : Int) := by have := HLN.out; omega
        have htl : ¬ t < ths.length := by omega
        clear hN
        go_wp2_with (first
          | (go_at_call 69; refine (hD _).mono ?_; rintro e w2 ⟨rfl, hb2⟩; have f2 := cell_later hb2 f0)
          | (go_at_call 19; refine (hN1 _).mono ?_; rintro e w3 ⟨a3, n3, c3, fl3, rfl, hb3⟩; have f3 := cell_later hb3 f2; have l3 := World.block_lt_of_cell? _ _ f3; simp only at l3))
        go_roundw
        case rel =>
          have hx := hb2.trans (hb3.mono hb2.size)
          exact ⟨t + 1, by omega, rfl, hB.trans ((hx.alloc hx.size _).mono hlt)⟩
        case measure => simp [intOf]; omega
    · have hte : t = 10 := by omega
      subst hte
      rw [badV] at hS
      go_wp2_with (first
        | (go_at_call 19; refine (hS _).mono ?_; rintro e w3 ⟨rfl, hb3⟩))
      go_ret
      exact ⟨rfl, hb.trans ((hBw.trans ((hb3.alloc hb3.size _).mono hBw.size)).mono hb.size)⟩
end Go.Proofs.Ytdfndcbakcmgiaa
namespace Go.Proofs.Ytdfndcbakcmgiaa
open Go.RowKit

theorem digS_take (ms : List Nat) (k : Nat) : (digS ms).extract 0 k = digS (ms.take k) := by
  apply ByteArray.ext
  simp [digS, ByteArray.data_extract, List.map_take]
theorem digS_drop (ms : List Nat) (k : Nat) : (digS ms).extract k ms.length = digS (ms.drop k) := by
  apply ByteArray.ext
  simp [digS, ByteArray.data_extract, List.map_drop]
  exact List.take_of_length_le (by simp)

theorem ths_state (V : Wd) (n t : Nat) (h : t < (thsOf V n).length) : (thsOf V n)[t].state = stateOf V t := by
  simp [thsOf, thOf]
theorem ending_none (V : Wd) (n : Nat) (hn : ∀ u, u < n → stateOf V u ≠ 1 ∧ stateOf V u ≠ 5) : ∀ (d t : Nat) (h0 : Int), n - t = d → (endingL (thsOf V n) t h0 = h0 ∨ endingL (thsOf V n) t h0 = 2) ∧ ((∃ u, t ≤ u ∧ u < n ∧ (stateOf V u = 2 ∨ stateOf V u = 3)) → endingL (thsOf V n) t h0 = 2) ∧ ((∀ u, t ≤ u → u < n → ¬ (stateOf V u = 2 ∨ stateOf V u = 3)) → endingL (thsOf V n) t h0 = h0) := by
  intro d
  induction d with
  | zero =>
    intro t h0 hd
    rw [endingL, dif_neg (by rw [thsOf_len]; omega)]
    exact ⟨.inl rfl, fun ⟨u, h1, h2, _⟩ => by omega, fun _ => rfl⟩
  | succ d ih =>
    intro t h0 hd
    have ht : t < (thsOf V n).length := by rw [thsOf_len]; omega
    obtain ⟨n1, n5⟩ := hn t (by omega)
    rw [endingL, dif_pos ht, ths_state V n t ht, if_neg n5, if_neg n1]
    by_cases hc : stateOf V t = 2 ∨ stateOf V t = 3
    · rw [if_pos hc]
      obtain ⟨i1, i2, i3⟩ := ih (t + 1) 2 (by omega)
      have e : endingL (thsOf V n) (t + 1) 2 = 2 := by rcases i1 with h | h <;> exact h
      exact ⟨.inr e, fun _ => e, fun h => absurd hc (h t (Nat.le_refl _) (by omega))⟩
    · rw [if_neg hc]
      obtain ⟨i1, i2, i3⟩ := ih (t + 1) h0 (by omega)
      refine ⟨i1, fun ⟨u, h1, h2, h3⟩ => i2 ⟨u, ?_, h2, h3⟩, fun h => i3 fun u h1 h2 => h u (by omega) h2⟩
      by_cases hu : u = t
      · subst hu; exact absurd h3 hc
      · omega
theorem ending_fault (V : Wd) (n : Nat) : ∀ (d t : Nat) (h0 : Int), n - t = d → (∃ u, t ≤ u ∧ u < n ∧ stateOf V u = 5) → endingL (thsOf V n) t h0 = 3 ∨ endingL (thsOf V n) t h0 = 0 := by
  intro d
  induction d with
  | zero => intro t h0 hd ⟨u, h1, h2, _⟩; omega
  | succ d ih =>
    intro t h0 hd ⟨u, h1, h2, h3⟩
    have ht : t < (thsOf V n).length := by rw [thsOf_len]; omega
    rw [endingL, dif_pos ht, ths_state V n t ht]
    by_cases h5 : stateOf V t = 5
    · rw [if_pos h5]; exact .inl rfl
    · rw [if_neg h5]
      by_cases h1' : stateOf V t = 1
      · rw [if_pos h1']; exact .inr rfl
      · rw [if_neg h1']
        refine ih (t + 1) _ (by omega) ⟨u, ?_, h2, h3⟩
        by_cases hu : u = t
        · subst hu; exact absurd h3 h5
        · omega
theorem Ends.ending {V : Wd} {how : Int} (h : Ends V how) : endingL (thsOf V V.prog.length) 0 1 = how ∨ (how = 3 ∧ endingL (thsOf V V.prog.length) 0 1 = 0 ∧ ∃ u, u < V.prog.length ∧ stateOf V u = 5) := by
  cases h with
  | done h =>
    left
    exact (ending_none V _ (fun u hu => by have := h u hu; omega) _ 0 1 rfl).2.2 (fun u _ hu => by have := h u hu; omega)
  | stuck h he =>
    left
    obtain ⟨u, h2, h3⟩ := he
    exact (ending_none V _ h _ 0 1 rfl).2.1 ⟨u, Nat.zero_le _, h2, h3⟩
  | fault h =>
    obtain ⟨u, h2, h3⟩ := h
    rcases ending_fault V _ _ 0 1 rfl ⟨u, Nat.zero_le _, h2, h3⟩ with e | e
    · exact .inl e
    · exact .inr ⟨rfl, e, u, h2, h3⟩
theorem Ends.range {V : Wd} {how : Int} (h : Ends V how) : 1 ≤ how ∧ how ≤ 3 := by cases h <;> decide

set_option maxRecDepth 100000 in
set_option maxHeartbeats 8000000 in
theorem Whole_in (s picks : ByteArray) (w : World) (h0 : (ckP s).1 = 0) :
    Calls Try.prog 10 #[.string s, .string picks] w fun e w' => e = .returned (.bool true) ∧ Below w.heap.size w w' := by
  have I0 := begin_inv s h0
  obtain ⟨ms, how, WE, hr⟩ := runs_ex picks _ (beginW (thLoop s 0 0 [])) 0 I0 rfl
  have hlen := hr.len I0
  have hsm := hr.small I0.good.n5
  have hsm' : ∀ t ∈ ms, t ≤ 100 := fun t ht => by have := hsm t ht; omega
  have hE := hr.ends I0
  have hIE := (hr.inv I0).1
  have hto0 : toLoop ⟨#[]⟩ (beginW (thLoop s 0 0 [])) 0 = some (beginW (thLoop s 0 0 [])) := by rw [toLoop, if_neg (by simp [ByteArray.size])]
  have hV : resumeV s ⟨#[]⟩ picks = .tuple #[.string (digS ms), .int .i64 how, .int .i64 0] := by
    rw [resumeV, if_neg (by rw [h0]; decide), hto0]
    simp only [hr.resumeL 61 [] rfl (by omega), List.nil_append]
  have hRun := fun w => run_any s picks w
  rw [hV] at hRun
  have hIs := fun w => isProgram_yes s picks (digS ms) how w h0 hV hE.range.1 hE.range.2
  have hRep := fun w => replay_go s h0 ms hsm' (by omega) WE hr.goes w
  have hRes : ∀ k, k ≤ ms.length → ∀ w, Calls Try.prog 18 #[.string s, .string (digS (ms.take k)), .string (behindS picks k)] w fun e w' => e = .returned (.tuple #[.string (digS (ms.drop k)), .int .i64 how, .int .i64 0]) ∧ Below w.heap.size w w' := by
    intro k hk w
    obtain ⟨V, hV1, hV2⟩ := hr.rest k hk
    have hst : ∀ t ∈ ms.take k, t ≤ 100 := fun t ht => hsm' t (List.mem_of_mem_take ht)
    have hto : toLoop (digS (ms.take k)) (beginW (thLoop s 0 0 [])) 0 = some V := by rw [toLoop_dig _ I0 _ hst]; exact hV1
    have hsh := hV2.shift (q := behindS picks k) 0 (fun a => by rw [Nat.zero_add, Nat.zero_add]; exact behind_byte picks k a)
    have hv : resumeV s (digS (ms.take k)) (behindS picks k) = .tuple #[.string (digS (ms.drop k)), .int .i64 how, .int .i64 0] := by
      rw [resumeV, if_neg (by rw [h0]; decide), hto]
      simp only [hsh.resumeL 61 [] rfl (by simp; omega), List.nil_append]
    rw [← hv]
    exact resume_any s _ _ (by rw [digS_size]; unfold maxLen; simp; omega) w
  have hMay : ∀ k, k ≤ ms.length → ∀ w, Calls Try.prog 38 #[.string s, .string (digS (ms.take k))] w fun e w' => e = .returned (.bool true) ∧ Below w.heap.size w w' := by
    intro k hk w
    obtain ⟨V, hV1, _⟩ := hr.rest k hk
    exact mayNext_any s h0 _ (fun t ht => hsm' t (List.mem_of_mem_take ht)) (by simp; omega) V hV1 w
  have hEnd := fun w a c hA => ending_any (thsOf WE WE.prog.length) (by rw [thsOf_len]; exact hIE.good.n5) (flagsLoop WE.set 0 ⟨#[]⟩) a c w hA
  have hen := hE.ending
  have hlt : (thsOf WE WE.prog.length).length = WE.prog.length := thsOf_len WE _
  have hnp := hIE.good.ok.np
  have hn5 := hIE.good.n5
  have HST : Hid (∀ t (h : t < (thsOf WE WE.prog.length).length), (thsOf WE WE.prog.length)[t].state = stateOf WE t) := fun t h => ths_state WE _ t h
  have HLN : Hid ((thsOf WE WE.prog.length).length = WE.prog.length) := hlt
  have hthp : 0 < (thsOf WE WE.prog.length).length := by omega
  have hth5 : (thsOf WE WE.prog.length).length ≤ 5 := by omega
  generalize flagsLoop WE.set 0 ⟨#[]⟩ = fl at *
  generalize endingL (thsOf WE WE.prog.length) 0 1 = en at *
  generalize thsOf WE WE.prog.length = ths at *
  have hl0 : ((ths.length : Int) == 0) = false := beq_false_of_ne (by omega)
  have hl0' : (ths.length == 0) = false := beq_false_of_ne (by omega)
  have hl1 : ths.length ≠ 0 := by omega
  have hl2 : ths ≠ [] := fun h => by rw [h] at hthp; simp at hthp
  have hods := digS_size ms
  clear hV hr hsm hsm' hE hto0 I0 hlt hnp hn5 hIE
  rcases hen with rfl | ⟨rfl, rfl, hex⟩
  · by_cases h3 : en = 3
    · subst h3
      go_enter Try.func10, Try.ntmps10
      go_wp2_with (first
        | (go_at_call 35; refine (hIs _).mono ?_; rintro e w1 ⟨rfl, hb1⟩)
        | (go_at_call 16; refine (hRun _).mono ?_; rintro e w2 ⟨rfl, hb2⟩)
        | (go_at_call 19; refine (hRep _).mono ?_; rintro e w3 ⟨a, c, rfl, hb3, hA, _⟩; have hA1 := hA.below ((Below.refl _ _).alloc (Nat.le_refl _) (.cells #[.slice a ths.length c, .string fl] 32)))
        | (go_at_call 36; refine (hEnd _ a c hA1).mono ?_; rintro e w4 ⟨rfl, hb4⟩; obtain ⟨hc, hz, hlt4, hB4⟩ := below_new hb4; have q0 : w4.cell? ⟨w3.heap.size, 0, none⟩ = some (.slice a ths.length c) := hc 0 _ rfl; clear hc))
      have hBw : Below w.heap.size w w4 := ((hb1.trans (hb2.mono hb1.size)).trans (hb3.mono (Nat.le_trans hb1.size hb2.size))).trans (hB4.mono (Nat.le_trans (Nat.le_trans hb1.size hb2.size) hb3.size))
      clear hIs hRun hRep hEnd hz hlt4 hA hA1 q0 hb1 hb2 hb3 hb4 hB4 HST HLN hthp hth5
      go_loopw [15] (fun i wr => ∃ k : Nat, k ≤ ms.length + 1 ∧ i = .int .i64 k ∧ Below w.heap.size w wr) (fun i _ => ms.length + 1 - (intOf i).toNat)
      case atStart => exact ⟨0, by omega, rfl, hBw⟩
      case round =>
        obtain ⟨k, hk, rfl, hBr⟩ := hrel
        by_cases hkl : k ≤ ms.length
        · have k0 : (0 : Int) ≤ (k : Int) := by omega
          have kl : (k : Int) ≤ (ms.length : Int) := by omega
          have hx0 := digS_take ms k
          have hx1 := digS_drop ms k
          have hRk := hRes k hkl
          have hMk := hMay k hkl
          have hBh := fun w => behind_any picks k _ rfl w
          clear hRes hMay
          go_wp2
          go_cut [16, 17, 18] (fun x y z wc => x = .string (digS (ms.drop k)) ∧ y = .int .i64 3 ∧ z = .int .i64 0 ∧ Below wr.heap.size wr wc)
          case first =>
            go_region_held3 (fun _ => True) (trivial)
              (first
                | (go_at_call 37; refine (hBh _).mono ?_; rintro e w5 ⟨rfl, hw⟩; have hw2 := hw.symm; clear hw; subst hw2)
                | (go_at_call 18; refine (hRk _).mono ?_; rintro e w6 ⟨rfl, hb6⟩))
            all_goals
              go_wp2_with fail
              go_meet
              case rel => exact ⟨rfl, rfl, rfl, by first | exact hb6 | exact below_of_drewN hb6 | exact below_of_drew hb6⟩
          case rest =>
            obtain ⟨rfl, rfl, rfl, hBc⟩ := hcut
            go_wp2_with (first
              | (go_at_call 38; refine (hMk _).mono ?_; rintro e w7 ⟨rfl, hb7⟩))
            go_roundw
            case rel => exact ⟨k + 1, by omega, rfl, hBr.trans ((hBc.trans (hb7.mono hBc.size)).mono hBr.size)⟩
            case measure => simp [intOf]; omega
        · have kl : ¬ (k : Int) ≤ (ms.length : Int) := by omega
          go_wp2
          go_ret
          exact ⟨rfl, hBr⟩
    · have b3 : (en == 3) = false := beq_false_of_ne h3
      go_enter Try.func10, Try.ntmps10
      go_wp2_with (first
        | (go_at_call 35; refine (hIs _).mono ?_; rintro e w1 ⟨rfl, hb1⟩)
        | (go_at_call 16; refine (hRun _).mono ?_; rintro e w2 ⟨rfl, hb2⟩)
        | (go_at_call 19; refine (hRep _).mono ?_; rintro e w3 ⟨a, c, rfl, hb3, hA, _⟩; have hA1 := hA.below ((Below.refl _ _).alloc (Nat.le_refl _) (.cells #[.slice a ths.length c, .string fl] 32)))
        | (go_at_call 36; refine (hEnd _ a c hA1).mono ?_; rintro e w4 ⟨rfl, hb4⟩; obtain ⟨hc, hz, hlt4, hB4⟩ := below_new hb4; have q0 : w4.cell? ⟨w3.heap.size, 0, none⟩ = some (.slice a ths.length c) := hc 0 _ rfl; clear hc))
      have hBw : Below w.heap.size w w4 := ((hb1.trans (hb2.mono hb1.size)).trans (hb3.mono (Nat.le_trans hb1.size hb2.size))).trans (hB4.mono (Nat.le_trans (Nat.le_trans hb1.size hb2.size) hb3.size))
      clear hIs hRun hRep hEnd hz hlt4 hA hA1 q0 hb1 hb2 hb3 hb4 hB4 HST HLN hthp hth5
      go_loopw [15] (fun i wr => ∃ k : Nat, k ≤ ms.length + 1 ∧ i = .int .i64 k ∧ Below w.heap.size w wr) (fun i _ => ms.length + 1 - (intOf i).toNat)
      case atStart => exact ⟨0, by omega, rfl, hBw⟩
      case round =>
        obtain ⟨k, hk, rfl, hBr⟩ := hrel
        by_cases hkl : k ≤ ms.length
        · have k0 : (0 : Int) ≤ (k : Int) := by omega
          have kl : (k : Int) ≤ (ms.length : Int) := by omega
          have hx0 := digS_take ms k
          have hx1 := digS_drop ms k
          have hRk := hRes k hkl
          have hMk := hMay k hkl
          have hBh := fun w => behind_any picks k _ rfl w
          clear hRes hMay
          go_wp2
          go_cut [16, 17, 18] (fun x y z wc => x = .string (digS (ms.drop k)) ∧ y = .int .i64 en ∧ z = .int .i64 0 ∧ Below wr.heap.size wr wc)
          case first =>
            go_region_held3 (fun _ => True) (trivial)
              (first
                | (go_at_call 37; refine (hBh _).mono ?_; rintro e w5 ⟨rfl, hw⟩; have hw2 := hw.symm; clear hw; subst hw2)
                | (go_at_call 18; refine (hRk _).mono ?_; rintro e w6 ⟨rfl, hb6⟩))
            all_goals
              go_wp2_with fail
              go_meet
              case rel => exact ⟨rfl, rfl, rfl, by first | exact hb6 | exact below_of_drewN hb6 | exact below_of_drew hb6⟩
          case rest =>
            obtain ⟨rfl, rfl, rfl, hBc⟩ := hcut
            go_wp2_with (first
              | (go_at_call 38; refine (hMk _).mono ?_; rintro e w7 ⟨rfl, hb7⟩))
            go_roundw
            case rel => exact ⟨k + 1, by omega, rfl, hBr.trans ((hBc.trans (hb7.mono hBc.size)).mono hBr.size)⟩
            case measure => simp [intOf]; omega
        · have kl : ¬ (k : Int) ≤ (ms.length : Int) := by omega
          go_wp2
          go_ret
          exact ⟨rfl, hBr⟩
  · have hex' := hex
    clear hex
    have hex : Hid (∃ u, u < WE.prog.length ∧ stateOf WE u = 5) := hex'
    clear hex'
    go_enter Try.func10, Try.ntmps10
    go_wp2_with (first
      | (go_at_call 35; refine (hIs _).mono ?_; rintro e w1 ⟨rfl, hb1⟩)
      | (go_at_call 16; refine (hRun _).mono ?_; rintro e w2 ⟨rfl, hb2⟩)
      | (go_at_call 19; refine (hRep _).mono ?_; rintro e w3 ⟨a, c, rfl, hb3, hA, _⟩; have hA1 := hA.below ((Below.refl _ _).alloc (Nat.le_refl _) (.cells #[.slice a ths.length c, .string fl] 32)))
      | (go_at_call 36; refine (hEnd _ a c hA1).mono ?_; rintro e w4 ⟨rfl, hb4⟩; obtain ⟨hc, hz, hlt4, hB4⟩ := below_new hb4; have q0 : w4.cell? ⟨w3.heap.size, 0, none⟩ = some (.slice a ths.length c) := hc 0 _ rfl; clear hc))
    have hBw : Below w.heap.size w w4 := ((hb1.trans (hb2.mono hb1.size)).trans (hb3.mono (Nat.le_trans hb1.size hb2.size))).trans (hB4.mono (Nat.le_trans (Nat.le_trans hb1.size hb2.size) hb3.size))
    go_loopw [13, 14] (fun x i wr => ∃ (t : Nat) (acc : Bool), t ≤ ths.length ∧ x = .bool acc ∧ i = .int .i64 t ∧ Hid (acc = true ↔ ∃ u, u < t ∧ stateOf WE u = 5) ∧ wr = w4) (fun _ i _ => ths.length - (intOf i).toNat)
    case atStart => exact ⟨0, false, by omega, rfl, rfl, ⟨(fun h => by cases h), (fun ⟨u, h, _⟩ => by omega)⟩, by first | rfl | trivial⟩
    case round =>
      obtain ⟨t, acc, ht, rfl, rfl, HA, hw⟩ := hrel
      have hw2 := hw.symm
      clear hw
      subst hw2
      by_cases htn : t < ths.length
      · have t0 : (0 : Int) ≤ (t : Int) := by omega
        have tl : (t : Int) < (ths.length : Int) := by omega
        obtain ⟨g, hga, c0, _, _, _⟩ := (hA1.below hb4) t _ (show ths[t]? = some ths[t] by simp [htn])
        rw [HST.out t htn] at c0
        subst hga
        have HA2 : Hid ((acc || decide (stateOf WE t = 5)) = true ↔ ∃ u, u < t + 1 ∧ stateOf WE u = 5) := by
          have h := HA.out
          constructor
          · intro hh
            simp only [Bool.or_eq_true, decide_eq_true_eq] at hh
            rcases hh with hh | hh
            · obtain ⟨u, h1, h2⟩ := h.1 hh
              exact ⟨u, by omega, h2⟩
            · exact ⟨t, by omega, hh⟩
          · rintro ⟨u, h1, h2⟩
            by_cases hu : u = t
            · subst hu; simp [h2]
            · rw [h.2 ⟨u, by omega, h2⟩]; rfl
        generalize stateOf WE t = st at *
        cases acc with
        | true =>
          rw [Bool.true_or] at HA2
          go_wp2
          go_roundw
          case rel => exact ⟨t + 1, true, by omega, rfl, rfl, HA2, by first | rfl | trivial⟩
          case measure => simp [intOf]; omega
        | false =>
          rw [Bool.false_or] at HA2
          have hbq : (st == 5) = decide (st = 5) := by by_cases h : st = 5 <;> simp [h]
          generalize decide (st = 5) = bb at *
          go_wp2
          go_roundw
          case rel => exact ⟨t + 1, bb, by omega, rfl, rfl, HA2, by first | rfl | trivial⟩
          case measure => simp [intOf]; omega
      · have tl : ¬ (t : Int) < (ths.length : Int) := by omega
        have hacc : acc = true := by
          have h1 := HLN.out
          obtain ⟨u, h2, h3⟩ := hex.out
          exact HA.out.2 ⟨u, by omega, h3⟩
        subst hacc
        clear HA hex
        go_wp2
        clear hIs hRun hRep hEnd hz hlt4 hA hA1 q0 hb1 hb2 hb3 hb4 hB4 HST HLN hthp hth5
        go_loopw [15] (fun i wr => ∃ k : Nat, k ≤ ms.length + 1 ∧ i = .int .i64 k ∧ Below w.heap.size w wr) (fun i _ => ms.length + 1 - (intOf i).toNat)
        case atStart => exact ⟨0, by omega, rfl, hBw⟩
        case round =>
          obtain ⟨k, hk, rfl, hBr⟩ := hrel
          by_cases hkl : k ≤ ms.length
          · have k0 : (0 : Int) ≤ (k : Int) := by omega
            have kl : (k : Int) ≤ (ms.length : Int) := by omega
            have hx0 := digS_take ms k
            have hx1 := digS_drop ms k
            have hRk := hRes k hkl
            have hMk := hMay k hkl
            have hBh := fun w => behind_any picks k _ rfl w
            clear hRes hMay
            go_wp2
            go_cut [16, 17, 18] (fun x y z wc => x = .string (digS (ms.drop k)) ∧ y = .int .i64 3 ∧ z = .int .i64 0 ∧ Below wr.heap.size wr wc)
            case first =>
              go_region_held3 (fun _ => True) (trivial)
                (first
                  | (go_at_call 37; refine (hBh _).mono ?_; rintro e w5 ⟨rfl, hw⟩; have hw2 := hw.symm; clear hw; subst hw2)
                  | (go_at_call 18; refine (hRk _).mono ?_; rintro e w6 ⟨rfl, hb6⟩))
              all_goals
                go_wp2_with fail
                go_meet
                case rel => exact ⟨rfl, rfl, rfl, by first | exact hb6 | exact below_of_drewN hb6 | exact below_of_drew hb6⟩
            case rest =>
              obtain ⟨rfl, rfl, rfl, hBc⟩ := hcut
              go_wp2_with (first
                | (go_at_call 38; refine (hMk _).mono ?_; rintro e w7 ⟨rfl, hb7⟩))
              go_roundw
              case rel => exact ⟨k + 1, by omega, rfl, hBr.trans ((hBc.trans (hb7.mono hBc.size)).mono hBr.size)⟩
              case measure => simp [intOf]; omega
          · have kl : ¬ (k : Int) ≤ (ms.length : Int) := by omega
            go_wp2
            go_ret
            exact ⟨rfl, hBr⟩
end Go.Proofs.Ytdfndcbakcmgiaa
