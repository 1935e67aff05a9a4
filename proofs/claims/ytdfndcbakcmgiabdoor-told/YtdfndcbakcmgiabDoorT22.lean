import Derived.Test.YtdfndcbakcmgiabDoorT10
namespace Go.Proofs.YtdfndcbakcmgiabDoor
open Go.RowKit
attribute [local go_sem ↓] loadV_fold

/-! Asks. -/
structure Ak where
  th : Int
  pl : Int
  lock : ByteArray
  holds : ByteArray
  at' : Int
def akCells (x : Ak) : List Value := [.int .i64 x.th, .int .i64 x.pl, .string x.lock, .string x.holds, .int .i64 x.at']
def askE (e : Ev) (i : Int) : Ak := ⟨e.thread, e.place, e.txt, e.holds, i⟩
def takeB (e : Ev) : Bool := decide ((stpOf e.txt).kind = 1)
/-- The asks that are events, of the first t events. -/
def asks1 (log : List Ev) : Nat → List Ak
  | 0 => []
  | t + 1 => asks1 log t ++ ((log[t]?.map fun e => if takeB e = true then [askE e t] else []).getD [])
def asks2 (l : List Ev) (t : Nat) : List Ak := (l.take t).map fun e => askE e (-1)
def asksW (W : Wd) : List Ak := asks1 W.log W.log.length ++ asks2 (wantsE W W.prog.length) (wantsE W W.prog.length).length
theorem asks1_len (log : List Ev) : ∀ t, (asks1 log t).length ≤ t
  | 0 => Nat.le_refl _
  | t + 1 => by
    rw [asks1, List.length_append]
    have := asks1_len log t
    cases log[t]? with
    | none => simp; omega
    | some e =>
      simp only [Option.map_some, Option.getD_some]
      split <;> simp <;> omega
theorem asks2_len (l : List Ev) (t : Nat) : (asks2 l t).length ≤ t := by simp [asks2]; omega
theorem asks2_succ {l : List Ev} {t : Nat} {e : Ev} (h : l[t]? = some e) : asks2 l (t + 1) = asks2 l t ++ [askE e (-1)] := by
  rw [asks2, asks2, List.take_add_one, h]; simp
/-- A lock's letter. -/
def lockT (k : Nat) : ByteArray := ⟨#[UInt8.ofNat (97 + k)]⟩
theorem lock_txt {n : Nat} {d : ByteArray} (h : DOk n d) (h1 : (stpOf d).kind = 1) : ∃ k : Nat, k < 6 ∧ (stpOf d).which = k ∧ d = lockT k := by
  have hk := stpOf_kd h
  have hs := h.1
  generalize stpOf d = x at hk h1
  cases hk with
  | take k hk6 h0 =>
    refine ⟨k, hk6, rfl, ?_⟩
    have e1 : d.size = 1 := by rw [hs, wid, if_neg (by omega), if_neg (by omega)]
    refine txt_eq (by rw [e1]; rfl) fun j hj => ?_
    have hj0 : j = 0 := by omega
    subst hj0
    rw [h0, ← byteI_in (show 0 < (lockT k).size from Nat.one_pos)]
    show (97 + k : Int) = ((UInt8.ofNat (97 + k)).toNat : Int)
    rw [UInt8.toNat_ofNat']; omega
  | _ => simp at h1
theorem infoAsk : (Tryd.prog.info? 37).map (fun i => (i.zero, i.size, i.bytes)) = some (some (.agg #[.int .i64 0, .int .i64 0, .string ⟨#[]⟩, .string ⟨#[]⟩, .int .i64 0]), 5, 56) := by kernel_rfl

set_option maxRecDepth 100000 in
set_option maxHeartbeats 2000000 in
theorem askOf_any (m : Mv) (k : Nat) (hk : k < 6) (hw : m.x.which = k) (i : Int) (w : World) :
    Calls Tryd.prog 29 #[.agg m.cells, .int .i64 i] w fun e w' => e = .returned (.agg (akCells ⟨m.th, m.pl, lockT k, m.h, i⟩).toArray) ∧ Below w.heap.size w w' := by
  obtain ⟨th, pl, ⟨kd, wh, c⟩, h⟩ := m
  simp only at hw
  subst hw
  have hcase : k = 0 ∨ k = 1 ∨ k = 2 ∨ k = 3 ∨ k = 4 ∨ k = 5 := by omega
  simp only [Mv.cells]
  rcases hcase with rfl | rfl | rfl | rfl | rfl | rfl
  · go_enter Tryd.func29, Tryd.ntmps29
    go_wp2
    exact bodyPost_ret (v := .agg #[.int .i64 (th : Int), .int .i64 (pl : Int), .string (Utf8.encode 97), .string h, .int .i64 i]) (by simp [results, Tryd.results29, go_sem]) rfl ⟨by rw [show Utf8.encode 97 = lockT 0 from by decide]; rfl, (two_new (Below.refl _ _)).2.2.1⟩
  · go_enter Tryd.func29, Tryd.ntmps29
    go_wp2
    exact bodyPost_ret (v := .agg #[.int .i64 (th : Int), .int .i64 (pl : Int), .string (Utf8.encode 98), .string h, .int .i64 i]) (by simp [results, Tryd.results29, go_sem]) rfl ⟨by rw [show Utf8.encode 98 = lockT 1 from by decide]; rfl, (two_new (Below.refl _ _)).2.2.1⟩
  · go_enter Tryd.func29, Tryd.ntmps29
    go_wp2
    exact bodyPost_ret (v := .agg #[.int .i64 (th : Int), .int .i64 (pl : Int), .string (Utf8.encode 99), .string h, .int .i64 i]) (by simp [results, Tryd.results29, go_sem]) rfl ⟨by rw [show Utf8.encode 99 = lockT 2 from by decide]; rfl, (two_new (Below.refl _ _)).2.2.1⟩
  · go_enter Tryd.func29, Tryd.ntmps29
    go_wp2
    exact bodyPost_ret (v := .agg #[.int .i64 (th : Int), .int .i64 (pl : Int), .string (Utf8.encode 100), .string h, .int .i64 i]) (by simp [results, Tryd.results29, go_sem]) rfl ⟨by rw [show Utf8.encode 100 = lockT 3 from by decide]; rfl, (two_new (Below.refl _ _)).2.2.1⟩
  · go_enter Tryd.func29, Tryd.ntmps29
    go_wp2
    exact bodyPost_ret (v := .agg #[.int .i64 (th : Int), .int .i64 (pl : Int), .string (Utf8.encode 101), .string h, .int .i64 i]) (by simp [results, Tryd.results29, go_sem]) rfl ⟨by rw [show Utf8.encode 101 = lockT 4 from by decide]; rfl, (two_new (Below.refl _ _)).2.2.1⟩
  · go_enter Tryd.func29, Tryd.ntmps29
    go_wp2
    exact bodyPost_ret (v := .agg #[.int .i64 (th : Int), .int .i64 (pl : Int), .string (Utf8.encode 102), .string h, .int .i64 i]) (by simp [results, Tryd.results29, go_sem]) rfl ⟨by rw [show Utf8.encode 102 = lockT 5 from by decide]; rfl, (two_new (Below.refl _ _)).2.2.1⟩

/-- Asks, as they lie in a row. -/
abbrev rowA (w : World) (B g c : Nat) (l : List Ak) : Prop := w.ownsRow B 37 5 (.slice (some ⟨g, 0, none⟩) l.length c) l.length (l.flatMap akCells)

set_option maxRecDepth 100000 in
set_option maxHeartbeats 4000000 in
theorem AsksT_any (g c g' c' : Nat) {n : Nat} (log wl : List Ev) (hL : ∀ v ∈ log, EvOk n v) (hl : log.length ≤ 60) (hW : ∀ v ∈ wl, EvOk n v ∧ (stpOf v.txt).kind = 1) (hwl : wl.length ≤ 5) (w : World) (hE : MvsAt w g (log.map mvE)) (hE' : MvsAt w g' (wl.map mvE))
    (hpl : ∀ v ∈ log, ∃ p : Nat, v.place = p) (hpw : ∀ v ∈ wl, ∃ p : Nat, v.place = p) :
    Calls Tryd.prog 20 #[.agg #[.slice (some ⟨g, 0, none⟩) log.length c, .slice (some ⟨g', 0, none⟩) wl.length c']] w fun e w' => ∃ ga ca, e = .returned (.slice (some ⟨ga, 0, none⟩) (asks1 log log.length ++ asks2 wl wl.length).length ca) ∧ Below w.heap.size w w' ∧ rowA w' w.heap.size ga ca (asks1 log log.length ++ asks2 wl wl.length) := by
  have hB0 : Below w.heap.size w (w.alloc (.cells #[.slice (some ⟨g, 0, none⟩) log.length c, .slice (some ⟨g', 0, none⟩) wl.length c'] 52)) := (Below.refl _ _).alloc (Nat.le_refl _) _
  have x0 : (w.alloc (.cells #[.slice (some ⟨g, 0, none⟩) log.length c, .slice (some ⟨g', 0, none⟩) wl.length c'] 52)).cell? ⟨w.heap.size, 0, none⟩ = some (.slice (some ⟨g, 0, none⟩) log.length c) := cellB (heap_alloc_new _ _) rfl
  have x1 : (w.alloc (.cells #[.slice (some ⟨g, 0, none⟩) log.length c, .slice (some ⟨g', 0, none⟩) wl.length c'] 52)).cell? ⟨w.heap.size, 1, none⟩ = some (.slice (some ⟨g', 0, none⟩) wl.length c') := cellB (heap_alloc_new _ _) rfl
  have hs1 : (w.alloc (.cells #[.slice (some ⟨g, 0, none⟩) log.length c, .slice (some ⟨g', 0, none⟩) wl.length c'] 52)).heap.size = w.heap.size + 1 := by simp
  have hEX := hE.below hB0
  have hEX' := hE'.below hB0
  have hr0 := World.ownsRow_lit (w.alloc (.cells #[.slice (some ⟨g, 0, none⟩) log.length c, .slice (some ⟨g', 0, none⟩) wl.length c'] 52)) (base := w.heap.size + 1) (e := 37) (size := 5) #[] 0 (by simp) (Nat.zero_le _) rfl
  have hBr0 := (Below.refl (w.alloc (.cells #[.slice (some ⟨g, 0, none⟩) log.length c, .slice (some ⟨g', 0, none⟩) wl.length c'] 52)).heap.size (w.alloc (.cells #[.slice (some ⟨g, 0, none⟩) log.length c, .slice (some ⟨g', 0, none⟩) wl.length c'] 52))).alloc (Nat.le_refl _) (.cells #[] 37)
  go_enter Tryd.func20, Tryd.ntmps20
  go_wp2
  generalize w.alloc (.cells #[.slice (some ⟨g, 0, none⟩) log.length c, .slice (some ⟨g', 0, none⟩) wl.length c'] 52) = X at *
  go_loopw [3, 4] (fun v i wr => ∃ t ga ca : Nat, t ≤ log.length ∧ i = .int .i64 (t : Int) ∧ v = .slice (some ⟨ga, 0, none⟩) (asks1 log t).length ca ∧ rowA wr (w.heap.size + 1) ga ca (asks1 log t) ∧ Below X.heap.size X wr) (fun _ i _ => log.length - (intOf i).toNat)
  case atStart =>
    refine ⟨0, w.heap.size + 1, 0, Nat.zero_le _, rfl, by rw [← hs1]; rfl, ?_, hBr0⟩
    rw [hs1] at hr0
    simpa [rowA, asks1] using hr0
  case round =>
    obtain ⟨t, ga, ca, ht, rfl, rfl, hown, hBr⟩ := hrel
    have hgl := hown.lt ga rfl
    have q0 := cell_later hBr x0
    have hsz := hBr.size
    by_cases htl : t < log.length
    · obtain ⟨e, he⟩ := get_some log t htl
      have hmv : (log.map mvE)[t]? = some (mvE e) := by rw [List.getElem?_map, he]; rfl
      have hEr := hEX.below hBr
      have hlv := hEr.loadV hmv
      have hk := hEr _ _ hmv 2 _ rfl
      have t0 : (0 : Int) ≤ (t : Int) := by omega
      have tl : (t : Int) < (log.length : Int) := by omega
      have hal := asks1_len log t
      have oe := hL e (List.mem_of_getElem? he)
      have HA : Hid (asks1 log (t + 1) = asks1 log t ++ (if takeB e = true then [askE e t] else [])) := by rw [Hid, asks1, he]; rfl
      have hk' : wr.cell? ⟨g, t * 6 + 2, none⟩ = some (.int .i64 (stpOf e.txt).kind) := hk
      by_cases h1 : (stpOf e.txt).kind = 1
      · obtain ⟨k, hk6, hwh, htx⟩ := lock_txt oe.dok h1
        obtain ⟨pp, hpp⟩ := hpl e (List.mem_of_getElem? he)
        obtain ⟨tt, htt, _⟩ := oe.th
        rw [if_pos (by simp [takeB, h1])] at HA
        rw [h1] at hk'
        have hAk := fun w => askOf_any (mvE e) k hk6 hwh (t : Int) w
        have hak : (⟨((mvE e).th : Nat), ((mvE e).pl : Nat), lockT k, (mvE e).h, (t : Int)⟩ : Ak) = askE e t := by
          simp [mvE, askE, htt, hpp, htx]
        rw [hak] at hAk
        generalize askE e t = ak at *
        obtain ⟨ath, apl, alk, aho, aat⟩ := ak
        simp only [akCells] at hAk
        clear hak hmv hk
        go_wp2_with (first
          | (go_at_call 29; refine (hAk _).mono ?_; rintro e2 w2 ⟨rfl, hb2⟩; have hown2 := hown.kept (grownBy_of_below hb2) (.inr (by simp [Value.ownBlock])))
          | (at_builtin; go_loud (refine wpList_appendLit _ rfl _ _ 28 rfl (w.heap.size + 1) 37 (.agg #[.int .i64 0, .int .i64 0, .string ⟨#[]⟩, .string ⟨#[]⟩, .int .i64 0]) 5 56 Tryd.underlying28 infoAsk rfl (by decide) _ _ _ rfl hown2 _ _ rfl rfl rfl ?c2 ?c3 ?c4 ?c5 ?_)))
        case c2 => exact ⟨rfl, rfl, rfl, rfl, rfl⟩
        case c3 => omega
        case c4 => omega
        case c5 => have := hb2.size; omega
        intro v' w3 ho3 hg3 hf3 hn3
        have hsz2 := hb2.size
        have h12 := hBr.trans (hb2.mono hsz)
        have hB3 : Below X.heap.size X w3 := below_grown (h12.alloc h12.size _) (by have := h12.size; simp; omega) hg3 (fun k hk => by simp [Value.ownBlock] at hk; omega)
        obtain ⟨g2, cap2, hv3⟩ := row_form ho3 hn3
        subst hv3
        clear hg3 hf3 hn3 hown hown2
        go_wp2
        go_roundw
        case rel =>
          refine ⟨t + 1, g2, cap2, by omega, rfl, by rw [HA.out]; simp, ?_, hB3⟩
          rw [rowA, HA.out]
          simpa [akCells] using ho3
        case measure => (simp [intOf] <;> omega)
      · have hb1 : ((stpOf e.txt).kind == 1) = false := beq_false_of_ne h1
        rw [if_neg (by simp [takeB, h1]), List.append_nil] at HA
        generalize (stpOf e.txt).kind = kd at *
        clear hmv hk
        go_wp2
        go_roundw
        case rel => exact ⟨t + 1, ga, ca, by omega, rfl, by rw [HA.out], by rw [rowA, HA.out]; exact hown, hBr⟩
        case measure => (simp [intOf] <;> omega)
    · have hte : t = log.length := by omega
      have tl : ¬ (t : Int) < (log.length : Int) := by omega
      subst hte
      have hal := asks1_len log log.length
      generalize hal0 : asks1 log log.length = al at *
      have HAL : Hid (asks1 log log.length = al) := hal0
      clear hal0
      have q1 := cell_later hBr x1
      go_wp2
      go_loopw [3, 5] (fun v i wq => ∃ t ga ca : Nat, t ≤ wl.length ∧ i = .int .i64 (t : Int) ∧ v = .slice (some ⟨ga, 0, none⟩) (al ++ asks2 wl t).length ca ∧ rowA wq (w.heap.size + 1) ga ca (al ++ asks2 wl t) ∧ Below X.heap.size X wq) (fun _ i _ => wl.length - (intOf i).toNat)
      case atStart =>
        refine ⟨0, ga, ca, Nat.zero_le _, rfl, by simp [asks2], ?_, hBr⟩
        simpa [rowA, asks2] using hown
      case round =>
        obtain ⟨t, ga, ca, ht, rfl, rfl, hown, hBr⟩ := hrel
        have hgl := hown.lt ga rfl
        have q1 := cell_later hBr x1
        have hsz := hBr.size
        by_cases htl : t < wl.length
        · obtain ⟨e, he⟩ := get_some wl t htl
          have hmv : (wl.map mvE)[t]? = some (mvE e) := by rw [List.getElem?_map, he]; rfl
          have hEr := hEX'.below hBr
          have hlv := hEr.loadV hmv
          have t0 : (0 : Int) ≤ (t : Int) := by omega
          have tl : (t : Int) < (wl.length : Int) := by omega
          have hal2 := asks2_len wl t
          obtain ⟨oe, h1⟩ := hW e (List.mem_of_getElem? he)
          have HA : Hid (asks2 wl (t + 1) = asks2 wl t ++ [askE e (-1)]) := asks2_succ he
          obtain ⟨k, hk6, hwh, htx⟩ := lock_txt oe.dok h1
          obtain ⟨pp, hpp⟩ := hpw e (List.mem_of_getElem? he)
          obtain ⟨tt, htt, _⟩ := oe.th
          have hAk := fun w => askOf_any (mvE e) k hk6 hwh (-1) w
          have hak : (⟨((mvE e).th : Nat), ((mvE e).pl : Nat), lockT k, (mvE e).h, -1⟩ : Ak) = askE e (-1) := by
            simp [mvE, askE, htt, hpp, htx]
          rw [hak] at hAk
          generalize askE e (-1) = ak at *
          obtain ⟨ath, apl, alk, aho, aat⟩ := ak
          simp only [akCells] at hAk
          have hlen : (al ++ asks2 wl t).length ≤ 1000 := by rw [List.length_append]; omega
          generalize hbl : al ++ asks2 wl t = bl at *
          have HBL : Hid (al ++ asks2 wl (t + 1) = bl ++ [⟨ath, apl, alk, aho, aat⟩]) := by rw [Hid, HA.out, ← hbl, List.append_assoc]
          clear hak hmv hbl
          go_wp2_with (first
            | (go_at_call 29; refine (hAk _).mono ?_; rintro e2 w2 ⟨rfl, hb2⟩; have hown2 := hown.kept (grownBy_of_below hb2) (.inr (by simp [Value.ownBlock])))
            | (at_builtin; go_loud (refine wpList_appendLit _ rfl _ _ 28 rfl (w.heap.size + 1) 37 (.agg #[.int .i64 0, .int .i64 0, .string ⟨#[]⟩, .string ⟨#[]⟩, .int .i64 0]) 5 56 Tryd.underlying28 infoAsk rfl (by decide) _ _ _ rfl hown2 _ _ rfl rfl rfl ?d2 ?d3 ?d4 ?d5 ?_)))
          case d2 => exact ⟨rfl, rfl, rfl, rfl, rfl⟩
          case d3 => omega
          case d4 => omega
          case d5 => have := hb2.size; omega
          intro v' w3 ho3 hg3 hf3 hn3
          have hsz2 := hb2.size
          have h12 := hBr.trans (hb2.mono hsz)
          have hB3 : Below X.heap.size X w3 := below_grown (h12.alloc h12.size _) (by have := h12.size; simp; omega) hg3 (fun k hk => by simp [Value.ownBlock] at hk; omega)
          obtain ⟨g2, cap2, hv3⟩ := row_form ho3 hn3
          subst hv3
          clear hg3 hf3 hn3 hown hown2
          go_wp2
          go_roundw
          case rel =>
            refine ⟨t + 1, g2, cap2, by omega, rfl, by rw [HBL.out]; simp, ?_, hB3⟩
            rw [rowA, HBL.out]
            simpa [akCells] using ho3
          case measure => (simp [intOf] <;> omega)
        · have hte : t = wl.length := by omega
          have tl : ¬ (t : Int) < (wl.length : Int) := by omega
          subst hte
          go_wp2
          go_ret
          exact ⟨ga, ca, by rw [HAL.out]; rfl, hB0.trans (hBr.mono hB0.size), by rw [HAL.out]; exact ownsRow_mono (B := w.heap.size + 1) (B' := w.heap.size) hown (by omega)⟩
end Go.Proofs.YtdfndcbakcmgiabDoor
namespace Go.Proofs.YtdfndcbakcmgiabDoor
open Go.RowKit

def LogPl (log : List Ev) : Prop := ∀ v ∈ log, ∃ p : Nat, v.place = p
theorem toLoop_logPl (sch : ByteArray) : ∀ (n k : Nat) (W0 W : Wd), sch.size - k = n → LogPl W0.log → toLoop sch W0 k = some W → LogPl W.log := by
  intro n
  induction n with
  | zero =>
    intro k W0 W hn hL h
    rw [toLoop, if_neg (by omega)] at h
    cases h; exact hL
  | succ n ih =>
    intro k W0 W hn hL h
    rw [toLoop, if_pos (by omega)] at h
    split at h
    · refine ih (k + 1) _ W (by omega) ?_ h
      rw [moveT_evAt]
      intro v hv
      rcases List.mem_append.1 hv with hv | hv
      · exact hL v hv
      · simp only [List.mem_singleton] at hv
        subst hv
        exact ⟨_, rfl⟩
    · cases h
theorem doSt_two {W : Wd} {t : Nat} {d : ByteArray} (h : doSt W t d = 2) : 97 ≤ byteI d 0 ∧ byteI d 0 ≤ 102 := by
  unfold doSt at h
  by_cases hc : 97 ≤ byteI d 0 ∧ byteI d 0 ≤ 102
  · exact hc
  · rw [if_neg hc] at h
    repeat' split at h
    all_goals simp at h
theorem wantsE_ok {W : Wd} (G : W.Good) : ∀ v ∈ wantsE W W.prog.length, EvOk W.prog.length v ∧ (stpOf v.txt).kind = 1 := by
  intro v hv
  simp only [wantsE, List.mem_map, List.mem_filter, List.mem_range, decide_eq_true_iff] at hv
  obtain ⟨t, ⟨ht, h2⟩, rfl⟩ := hv
  obtain ⟨n, l, d, A, hst⟩ := stateOf_at W t (by omega) (by omega) G ht
  have hd := G.dok t l n d A.prog A.txt
  have e : (evAt W t).txt = d := by simp [evAt, A.prog, A.place, A.txt]
  have hdo : doSt W t d = 2 := by rw [← hst]; exact h2
  have hb := doSt_two hdo
  refine ⟨⟨by rw [e]; exact hd, t, rfl, ht⟩, ?_⟩
  rw [e]
  have hk := stpOf_kd hd
  generalize stpOf d = x at hk
  cases hk with
  | take k _ _ => rfl
  | _ => exfalso; omega
theorem wantsE_pl (W : Wd) (t : Nat) : LogPl (wantsE W t) := by
  intro v hv
  simp only [wantsE, List.mem_map] at hv
  obtain ⟨u, _, rfl⟩ := hv
  exact ⟨_, rfl⟩

theorem asks_bad (s sch : ByteArray) (x : Int) (hx : x ≠ 0) (w : World) (hwd : ∀ w, Calls Tryd.prog 19 #[.string s, .string sch] w fun e w' => e = .returned (.tuple #[nilTr, .int .i64 x]) ∧ Below w.heap.size w w') :
    Calls Tryd.prog 9 #[.string s, .string sch] w fun e w' => e = .returned (.tuple #[.slice none 0 0, .int .i64 x]) ∧ Below w.heap.size w w' := by
  have hb : (x != 0) = true := by simpa using hx
  go_enter Tryd.func9, Tryd.ntmps9
  go_wp2_with (first | (go_at_call 19; refine (hwd _).mono ?_; rintro e w1 ⟨he, hB1⟩; rw [nilTr] at he; subst he))
  go_ret2
  exact ⟨rfl, hB1.alloc hB1.size _⟩

set_option maxRecDepth 100000 in
set_option maxHeartbeats 2000000 in
theorem asks_ok (s sch : ByteArray) (hsch : sch.size ≤ maxLen) (w : World) (h0 : (ckP s).1 = 0) (W : Wd) (hW : toLoop sch (beginW (thLoop s 0 0 [])) 0 = some W) :
    Calls Tryd.prog 9 #[.string s, .string sch] w fun e w' => ∃ g c, e = .returned (.tuple #[.slice (some ⟨g, 0, none⟩) (asksW W).length c, .int .i64 0]) ∧ Below w.heap.size w w' ∧ rowA w' w.heap.size g c (asksW W) := by
  have I0 := begin_inv s h0
  have hwd := fun w => traceOf_ok s sch hsch w h0 W hW
  have hLO := toLoop_logOk sch _ 0 _ W rfl I0 (begin_logOk _) hW
  have hLP := toLoop_logPl sch _ 0 _ W rfl (by rw [begin_log]; intro v hv; simp at hv) hW
  have I := (toLoop_inv sch _ 0 _ W rfl I0 hW).1
  have hA := fun g c g' c' w hE hE' => AsksT_any g c g' c' (n := W.prog.length) W.log (wantsE W W.prog.length) hLO I.small (wantsE_ok I.good) (Nat.le_trans (wantsE_len W _) I.good.n5) w hE hE' hLP (wantsE_pl W _)
  have hdef : asks1 W.log W.log.length ++ asks2 (wantsE W W.prog.length) (wantsE W W.prog.length).length = asksW W := rfl
  rw [hdef] at hA
  generalize asksW W = al at *
  generalize wantsE W W.prog.length = wl at *
  clear hdef hLO hLP I I0 hW h0
  go_enter Tryd.func9, Tryd.ntmps9
  go_wp2_with (first
    | (go_at_call 19; refine (hwd _).mono ?_; rintro e w1 ⟨g, c, g', c', rfl, hm, hm', hB1, hg, hg'⟩; have hBX := hB1.alloc hB1.size (.cells #[.slice (some ⟨g, 0, none⟩) W.log.length c, .slice (some ⟨g', 0, none⟩) wl.length c'] 52); have hmX := hm.below ((Below.refl _ _).alloc (Nat.le_refl _) (.cells #[.slice (some ⟨g, 0, none⟩) W.log.length c, .slice (some ⟨g', 0, none⟩) wl.length c'] 52)); have hmX' := hm'.below ((Below.refl _ _).alloc (Nat.le_refl _) (.cells #[.slice (some ⟨g, 0, none⟩) W.log.length c, .slice (some ⟨g', 0, none⟩) wl.length c'] 52)))
    | (go_at_call 20; refine (hA _ _ _ _ _ hmX hmX').mono ?_; rintro e w2 ⟨ga, ca, rfl, hb2, ho2⟩))
  go_ret2
  exact ⟨ga, ca, rfl, hBX.trans (hb2.mono hBX.size), ownsRow_mono (B := _) (B' := w.heap.size) ho2 hBX.size⟩
end Go.Proofs.YtdfndcbakcmgiabDoor
