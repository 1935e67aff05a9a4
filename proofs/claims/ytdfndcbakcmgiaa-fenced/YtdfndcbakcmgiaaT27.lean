import Derived.Test.YtdfndcbakcmgiaaT26
import Derived.Test.YtdfndcbakcmgiaaT24
import Derived.Test.YtdfndcbakcmgiaaW
namespace Go.Proofs.Ytdfndcbakcmgiaa
open Go.RowKit

theorem letS_append (c : Nat) (a b : List Nat) : letS c a ++ letS c b = letS c (a ++ b) := by
  apply ByteArray.ext
  simp [letS]
theorem lockT_let (k : Nat) : lockT k = letS 97 [k] := rfl
theorem asks1_at (log : List Ev) : ∀ t, ∀ x ∈ asks1 log t, 0 ≤ x.at'
  | 0, x, h => by simp [asks1] at h
  | t + 1, x, h => by
    rw [asks1, List.mem_append] at h
    rcases h with h | h
    · exact asks1_at log t x h
    · cases he : log[t]? with
      | none => rw [he] at h; simp at h
      | some e =>
        rw [he] at h
        simp only [Option.map_some, Option.getD_some] at h
        split at h
        · simp only [List.mem_singleton] at h
          subst h
          simp [askE]
        · simp at h
/-- What is known of an ask that waits. -/
structure WantD (W : Wd) (e : Ev) where
  u : Nat
  k : Nat
  v : Nat
  pl : Nat
  hu : u < W.prog.length
  hk : k < 6
  hv : v < W.prog.length
  hne : v ≠ u
  th : e.thread = u
  ep : e.place = pl
  st : thOf W u = ⟨2, pl, letS 97 (heldL W.has u), v⟩
  eh : e.holds = letS 97 (heldL W.has u)
  et : e.txt = letS 97 [k]
  mem : k ∈ heldL W.has v
theorem want_data {W : Wd} (G : W.Good) {e : Ev} (h : e ∈ wantsE W W.prog.length) : Nonempty (WantD W e) := by
  have hok := wantsE_ok G e h
  simp only [wantsE, List.mem_map, List.mem_filter, List.mem_range, decide_eq_true_iff] at h
  obtain ⟨u, ⟨hu, h2⟩, rfl⟩ := h
  obtain ⟨n, l, d, A, hst⟩ := stateOf_at W u (by omega) (by omega) G hu
  have e1 : evAt W u = ⟨u, n, d, holdsOf W u⟩ := by simp [evAt, A.prog, A.place, A.txt]
  rw [e1] at hok ⊢
  obtain ⟨hb, hl⟩ := doSt_wants (by rw [← hst]; exact h2)
  obtain ⟨v, hv, hvu⟩ := lockSt_two hl
  obtain ⟨k, hk6, hwh, htx⟩ := lock_txt hok.1.dok hok.2
  simp only at htx
  have hbk : byteI d 0 = 97 + k := by
    rw [htx, ← byteI_in (show 0 < (lockT k).size from Nat.one_pos)]
    show ((UInt8.ofNat (97 + k)).toNat : Int) = 97 + k
    rw [UInt8.toNat_ofNat']; omega
  have hkk : (byteI d 0 - 97).toNat = k := by omega
  rw [hkk] at hv
  have hv' : W.has[k]? = some (some v) := by
    cases hh : W.has[k]? with
    | none => rw [hh] at hv; simp at hv
    | some o => rw [hh] at hv; simp at hv; rw [hv]
  refine ⟨⟨u, k, v, n, hu, hk6, G.has k v hv', hvu, rfl, rfl, ?_, holdsOf_held W u, ?_, heldL_mem.2 ⟨hk6, hv⟩⟩⟩
  · have hw : waitsOf W u = v := by simp only [waitsOf, h2, if_true, A.prog, A.place, A.txt, Option.getD_some, hkk, hv']
    rw [thOf, h2, A.place, hw, holdsOf_held]; rfl
  · rw [← lockT_let]; exact htx

set_option maxRecDepth 100000 in
set_option maxHeartbeats 8000000 in
theorem fenced_any (s sch : ByteArray) (hsch : sch.size ≤ maxLen) (w : World) (h0 : (ckP s).1 = 0) (W : Wd) (hW : toLoop sch (beginW (thLoop s 0 0 [])) 0 = some W) :
    Calls Try.prog 39 #[.string s, .string sch] w fun e w' => e = .returned (.bool true) ∧ Below w.heap.size w w' := by
  have I := (toLoop_inv sch _ 0 _ W rfl (begin_inv s h0) hW).1
  have G := I.good
  have h5 := G.n5
  have hR := fun w => replay_ok s sch hsch w h0 W hW
  have hA := fun w => asks_ok s sch hsch w h0 W hW
  have hln : (thsOf W W.prog.length).length = W.prog.length := thsOf_len W _
  have HAL : Hid ((asksW W).length = (asks1 W.log W.log.length).length + (wantsE W W.prog.length).length) := by rw [Hid, asksW, List.length_append, asks2, List.take_length, List.length_map]
  have hal1 := asks1_len W.log W.log.length
  have hwl := wantsE_len W W.prog.length
  have hsm := I.small
  have hat1 := asks1_at W.log W.log.length
  have hgetT : ∀ (w' : World) (g : Nat), ThsIn w' (some ⟨g, 0, none⟩) (thsOf W W.prog.length) → ∀ t, t < W.prog.length → w'.cell? ⟨g, t * 4, none⟩ = some (.int .i64 (thOf W t).state) ∧ w'.cell? ⟨g, t * 4 + 1, none⟩ = some (.int .i64 (thOf W t).place) ∧ w'.cell? ⟨g, t * 4 + 2, none⟩ = some (.string (thOf W t).holds) ∧ w'.cell? ⟨g, t * 4 + 3, none⟩ = some (.int .i64 (thOf W t).waits) := fun w' g h t ht => by
    obtain ⟨g2, e, h1, h2, h3, h4⟩ := h t _ (thsOf_get W _ t ht)
    cases e
    exact ⟨h1, h2, h3, h4⟩
  have hgetA : ∀ (w' : World) (g : Nat) (a : List Ak), AksAt w' (some ⟨g, 0, none⟩) a → ∀ (j : Nat) (x : Ak), a[j]? = some x → w'.cell? ⟨g, j * 5, none⟩ = some (.int .i64 x.th) ∧ w'.cell? ⟨g, j * 5 + 1, none⟩ = some (.int .i64 x.pl) ∧ w'.cell? ⟨g, j * 5 + 2, none⟩ = some (.string x.lock) ∧ w'.cell? ⟨g, j * 5 + 3, none⟩ = some (.string x.holds) ∧ w'.cell? ⟨g, j * 5 + 4, none⟩ = some (.int .i64 x.at') := fun w' g a h j x hx => by
    obtain ⟨g2, e, h1⟩ := h j x hx
    cases e
    exact h1
  have hL6 : ∀ t, ∀ x ∈ allL W.has t, x < 6 := fun t x hx => by obtain ⟨u, _, hk⟩ := allL_mem hx; exact (heldL_mem.1 hk).1
  generalize flagsLoop W.set 0 ⟨#[]⟩ = fl at *
  go_enter Try.func39, Try.ntmps39
  go_upto_region 2 with (first | (go_at_call 19; refine (hR _).mono ?_; rintro e w1 ⟨g, cap, rfl, hb1, ho1⟩))
  have t1 : ThsIn w1 (some ⟨g, 0, none⟩) (thsOf W W.prog.length) := thsIn_of (B := w.heap.size + 1) (cap := cap) (by rw [hln]; exact ho1)
  have hbX := hb1.alloc hb1.size (.cells #[.slice (some ⟨g, 0, none⟩) W.prog.length cap, .string fl] 32)
  have t2 := t1.below ((Below.refl _ _).alloc (Nat.le_refl _) (.cells #[.slice (some ⟨g, 0, none⟩) W.prog.length cap, .string fl] 32))
  have v1 : (w1.alloc (.cells #[.slice (some ⟨g, 0, none⟩) W.prog.length cap, .string fl] 32)).cell? ⟨w1.heap.size, 0, none⟩ = some (.slice (some ⟨g, 0, none⟩) W.prog.length cap) := cellB (heap_alloc_new _ _) rfl
  generalize w1.alloc (.cells #[.slice (some ⟨g, 0, none⟩) W.prog.length cap, .string fl] 32) = X at *
  clear ho1 t1 hR
  go_upto_region 3 with (first | (go_at_call 22; refine (hA _).mono ?_; rintro e w2 ⟨ga, ca, rfl, hb2, ho2⟩))
  have a2 : AksAt w2 (some ⟨ga, 0, none⟩) (asksW W) := aksAt_row rfl ho2
  have t3 := t2.below hb2
  have v2 := cell_later hb2 v1
  have hBw := hbX.trans (hb2.mono hbX.size)
  clear hA ho2 t2 v1 hbX hb2 hb1
  go_wp2
  go_loopw [9, 10, 11] (fun a c i wr => ∃ t : Nat, t ≤ W.prog.length ∧ a = .string (letS 97 (allL W.has t)) ∧ c = .int .i64 ((wantsE W t).length : Int) ∧ i = .int .i64 (t : Int) ∧ Below w2.heap.size w2 wr) (fun _ _ i _ => W.prog.length - (intOf i).toNat)
  case atStart => exact ⟨0, Nat.zero_le _, rfl, rfl, rfl, Below.refl _ _⟩
  case round =>
    obtain ⟨t, ht, rfl, rfl, rfl, hBr⟩ := hrel
    have vr := cell_later hBr v2
    by_cases htn : t < W.prog.length
    · obtain ⟨d0, d1, d2, d3⟩ := hgetT wr g (t3.below hBr) t htn
      have dh : wr.cell? ⟨g, t * 4 + 2, none⟩ = some (.string (letS 97 (heldL W.has t))) := by rw [← holdsOf_held]; exact d2
      have ds : wr.cell? ⟨g, t * 4, none⟩ = some (.int .i64 (stateOf W t)) := d0
      have t0 : (0 : Int) ≤ (t : Int) := by omega
      have tn : (t : Int) < (W.prog.length : Int) := by omega
      have hhl := heldL_len W.has t
      have hal2 := allL_len W.has t
      have hsz := letS_size 97 (heldL W.has t)
      have HNT : Hid (∀ i k, (heldL W.has t)[i]? = some k → k ∉ allL W.has t ++ (heldL W.has t).take i) := fun i k hk => not_twice hk
      have HM6 : Hid (∀ x ∈ heldL W.has t, x < 6) := fun x hx => (heldL_mem.1 hx).1
      have HALL : Hid (allL W.has (t + 1) = allL W.has t ++ heldL W.has t) := rfl
      have hA6 := hL6 t
      have hwt := wantsE_len W t
      have HWY : Hid (stateOf W t = 2 → (wantsE W (t + 1)).length = (wantsE W t).length + 1) := fun h => by rw [wantsE_yes h]; simp
      have HWN : Hid (stateOf W t ≠ 2 → (wantsE W (t + 1)).length = (wantsE W t).length) := fun h => by rw [wantsE_no h]
      generalize heldL W.has t = hl at *
      generalize allL W.has t = al at *
      clear d0 d1 d2 d3
      go_wp2
      go_loopw [9, 13] (fun a i wq => ∃ j : Nat, j ≤ hl.length ∧ a = .string (letS 97 (al ++ hl.take j)) ∧ i = .int .i64 (j : Int) ∧ Below w2.heap.size w2 wq) (fun _ i _ => hl.length - (intOf i).toNat)
      case atStart => exact ⟨0, Nat.zero_le _, by simp, rfl, hBr⟩
      case round =>
        obtain ⟨j, hj, rfl, rfl, hBq⟩ := hrel
        by_cases hjl : j < hl.length
        · obtain ⟨k, hk⟩ := get_some hl j hjl
          have hex := letS_ext 97 hl j k hk
          have hk6 := HM6.out k (List.mem_of_getElem? hk)
          have hLe := fun w' => letter_any k hk6 (al ++ hl.take j) (by simp; omega) (fun x hx => by rcases List.mem_append.1 hx with h | h; exact hA6 x h; exact HM6.out x (List.mem_of_mem_take h)) w'
          rw [decide_eq_false (HNT.out j k hk)] at hLe
          have hap := letS_append 97 (al ++ hl.take j) [k]
          have htk : al ++ hl.take j ++ [k] = al ++ hl.take (j + 1) := by rw [List.take_add_one, hk, List.append_assoc]; rfl
          rw [htk] at hap
          have HSZ : Hid ((letS 97 (al ++ hl.take j)).size = (al ++ hl.take j).length) := letS_size _ _
          have hs1 : (letS 97 (al ++ hl.take j)).size ≤ 1000 := by rw [HSZ.out]; simp; omega
          have hs2 : (letS 97 [k]).size = 1 := rfl
          have j0 : (0 : Int) ≤ (j : Int) := by omega
          have jl : (j : Int) < (hl.length : Int) := by omega
          generalize letS 97 (al ++ hl.take j) = A1 at *
          generalize hA2 : letS 97 (al ++ hl.take (j + 1)) = A2 at *
          have HA2 : Hid (letS 97 (al ++ hl.take (j + 1)) = A2) := hA2
          clear hk htk hA2
          go_wp2_with (first | (go_at_call 70; refine (hLe _).mono ?_; rintro e w5 ⟨rfl, hw⟩; have hw2 := hw.symm; clear hw; subst hw2))
          go_roundw
          case rel => exact ⟨j + 1, by omega, by rw [HA2.out], rfl, hBq⟩
          case measure => (simp [intOf] <;> omega)
        · have hje : j = hl.length := by omega
          have jl : ¬ (j : Int) < (hl.length : Int) := by omega
          subst hje
          have HT : Hid (al ++ hl.take hl.length = allL W.has (t + 1)) := by rw [Hid, List.take_length, HALL.out]
          have vq := cell_later hBq v2
          have dsq : wr.cell? ⟨g, t * 4, none⟩ = some (.int .i64 (stateOf W t)) := (hgetT wr g (t3.below hBq) t htn).1
          by_cases h2 : stateOf W t = 2
          · have HW1 := show Hid _ from HWY.out h2
            rw [h2] at dsq
            go_wp2
            go_roundw
            case rel => exact ⟨t + 1, by omega, by rw [HT.out], by rw [HW1.out]; rfl, rfl, hBq⟩
            case measure => (simp [intOf] <;> omega)
          · have HW1 := show Hid _ from HWN.out h2
            have hb2 : (stateOf W t == 2) = false := beq_false_of_ne h2
            generalize stateOf W t = st at *
            go_wp2
            go_roundw
            case rel => exact ⟨t + 1, by omega, by rw [HT.out], by rw [HW1.out], rfl, hBq⟩
            case measure => (simp [intOf] <;> omega)
    · have hte : t = W.prog.length := by omega
      have tn : ¬ (t : Int) < (W.prog.length : Int) := by omega
      subst hte
      have HAS : Hid (asksW W = asks1 W.log W.log.length ++ asks2 (wantsE W W.prog.length) (wantsE W W.prog.length).length) := rfl
      have hWD : ∀ e ∈ wantsE W W.prog.length, Nonempty (WantD W e) := fun e he => want_data G he
      generalize wantsE W W.prog.length = wl at *
      generalize asks1 W.log W.log.length = a1 at *
      have hlen : (asksW W).length ≤ 1000 := by rw [HAL.out]; omega
      go_wp2
      go_loopw [10, 15] (fun c i wq => ∃ j : Nat, j ≤ (asksW W).length ∧ c = .int .i64 ((wl.length : Int) - ((j - a1.length : Nat) : Int)) ∧ i = .int .i64 (j : Int) ∧ Below w2.heap.size w2 wq) (fun _ i _ => (asksW W).length - (intOf i).toNat)
      case atStart => exact ⟨0, Nat.zero_le _, by simp, rfl, hBr⟩
      case round =>
        obtain ⟨j, hj, rfl, rfl, hBq⟩ := hrel
        have vq := cell_later hBq v2
        by_cases hjl : j < (asksW W).length
        · obtain ⟨x, hx⟩ := get_some (asksW W) j hjl
          obtain ⟨c0, c1, c2, c3, c4⟩ := hgetA wr ga _ (a2.below hBq) j x hx
          have j0 : (0 : Int) ≤ (j : Int) := by omega
          have jl : (j : Int) < ((asksW W).length : Int) := by omega
          rw [HAS.out] at hx
          by_cases hja : j < a1.length
          · rw [List.getElem?_append_left hja] at hx
            have h0' := hat1 x (List.mem_of_getElem? hx)
            have hz : ((j + 1 - a1.length : Nat) : Int) = ((j - a1.length : Nat) : Int) := by omega
            have HZ := show Hid _ from hz
            clear hx hz
            generalize ((j - a1.length : Nat) : Int) = q at *
            go_wp2
            go_roundw
            case rel => exact ⟨j + 1, by omega, by rw [HZ.out], rfl, hBq⟩
            case measure => (simp [intOf] <;> omega)
          · rw [List.getElem?_append_right (by omega), asks2, List.take_length, List.getElem?_map] at hx
            cases he : wl[j - a1.length]? with
            | none => rw [he] at hx; simp at hx
            | some e =>
              rw [he] at hx
              simp only [Option.map_some, Option.some.injEq] at hx
              subst hx
              obtain ⟨D⟩ := hWD e (List.mem_of_getElem? he)
              obtain ⟨u, k, v, pl, hu, hk, hv, hne, hth, hep, hst, heh, het, hmem⟩ := D
              simp only [askE] at c0 c1 c2 c3 c4
              rw [hth] at c0
              rw [hep] at c1
              rw [het] at c2
              rw [heh] at c3
              have hz : (wl.length : Int) - ((j - a1.length : Nat) : Int) - 1 = (wl.length : Int) - ((j + 1 - a1.length : Nat) : Int) := by omega
              have HZ := show Hid _ from hz
              obtain ⟨d0, d1, d2, d3⟩ := hgetT wr g (t3.below hBq) u hu
              rw [hst] at d0 d1 d2 d3
              simp only at d0 d1 d2 d3
              have dv : wr.cell? ⟨g, v * 4 + 2, none⟩ = some (.string (letS 97 (heldL W.has v))) := by
                have := (hgetT wr g (t3.below hBq) v hv).2.2.1
                rw [← holdsOf_held]; exact this
              have u0 : (0 : Int) ≤ (u : Int) := by omega
              have un : (u : Int) < (W.prog.length : Int) := by omega
              have v0 : (0 : Int) ≤ (v : Int) := by omega
              have vn : (v : Int) < (W.prog.length : Int) := by omega
              have hvu : ((v : Int) == (u : Int)) = false := beq_false_of_ne (by omega)
              have hLe := fun w' => letter_any k hk (heldL W.has v) (by have := heldL_len W.has v; omega) (fun y hy => (heldL_mem.1 hy).1) w'
              rw [decide_eq_true hmem] at hLe
              generalize heldL W.has v = hv' at *
              generalize letS 97 hv' = Hv at *
              generalize letS 97 (heldL W.has u) = Hu at *
              generalize letS 97 [k] = Lk at *
              generalize hcnt : (wl.length : Int) - ((j - a1.length : Nat) : Int) = cn at *
              have hcn0 : -1000 ≤ cn := by omega
              have hcn1 : cn ≤ 1000 := by omega
              clear hst hth hep heh het he hz hcnt hmem hWD hgetA hgetT
              go_upto_region 25 with fail
              go_quiet (fail)
              have hD : Below wr.heap.size wr (wr.drewN nq) := below_drewN _ _
              generalize wr.drewN nq = X1 at *
              have hBX := hBq.trans (hD.mono hBq.size)
              have x0 := cell_later hD vq
              have xa0 := cell_later hD c0
              have xa1 := cell_later hD c1
              have xa2 := cell_later hD c2
              have xa3 := cell_later hD c3
              have xd0 := cell_later hD d0
              have xd1 := cell_later hD d1
              have xd2 := cell_later hD d2
              have xd3 := cell_later hD d3
              have xdv := cell_later hD dv
              clear vq c0 c1 c2 c3 c4 d0 d1 d2 d3 dv hD
              go_upto_region 27 with fail
              have kA := (Below.refl X1.heap.size X1).alloc (Nat.le_refl _) (.cells #[.int .i64 0, .int .i64 0, .string ⟨#[]⟩, .int .i64 0] 64)
              go_region_held3 (fun w' => w'.cell? ⟨w1.heap.size, 0, none⟩ = some (.slice (some ⟨g, 0, none⟩) W.prog.length cap) ∧ w'.cell? ⟨ga, j * 5, none⟩ = some (.int .i64 (u : Int)) ∧ w'.cell? ⟨g, u * 4, none⟩ = some (.int .i64 2) ∧ w'.cell? ⟨g, u * 4 + 1, none⟩ = some (.int .i64 (pl : Int)) ∧ w'.cell? ⟨g, u * 4 + 2, none⟩ = some (.string Hu) ∧ w'.cell? ⟨g, u * 4 + 3, none⟩ = some (.int .i64 (v : Int)))
                (first | (refine ⟨cell_later ?_ x0, cell_later ?_ xa0, cell_later ?_ xd0, cell_later ?_ xd1, cell_later ?_ xd2, cell_later ?_ xd3⟩ <;> first | exact Below.refl _ _ | exact (Below.refl _ _).drew | exact (Below.refl _ _).alloc (Nat.le_refl _) _ | exact ((Below.refl _ _).alloc (Nat.le_refl _) _).drew | exact (Below.refl _ _).drew.alloc (Nat.le_refl _) _ | exact (((((Below.refl _ _).drew.alloc (Nat.le_refl _) _).setCell (Nat.le_refl _) _).setCell (Nat.le_refl _) _).setCell (Nat.le_refl _) _).setCell (Nat.le_refl _) _ | exact (((((Below.refl _ _).alloc (Nat.le_refl _) _).drew.setCell (Nat.le_refl _) _).setCell (Nat.le_refl _) _).setCell (Nat.le_refl _) _).setCell (Nat.le_refl _) _) | go_keep)
                (fail)
              have hD2 : Below X1.heap.size X1 ((X1.alloc (.cells #[.int .i64 2, .int .i64 (pl : Int), .string Hu, .int .i64 (v : Int)] 64)).drew) := ((Below.refl _ _).alloc (Nat.le_refl _) _).drew
              have y : ∀ (i : Nat) (z : Value), #[Value.int .i64 2, .int .i64 (pl : Int), .string Hu, .int .i64 (v : Int)][i]? = some z → ((X1.alloc (.cells #[.int .i64 2, .int .i64 (pl : Int), .string Hu, .int .i64 (v : Int)] 64)).drew).cell? ⟨X1.heap.size, i, none⟩ = some z := fun i z hz => cell_later (Below.refl _ _).drew (cellB (heap_alloc_new _ _) hz)
              have y0 : ((X1.alloc (.cells #[.int .i64 2, .int .i64 (pl : Int), .string Hu, .int .i64 (v : Int)] 64)).drew).cell? ⟨X1.heap.size, 0, none⟩ = some (.int .i64 2) := y 0 _ rfl
              have y1 : ((X1.alloc (.cells #[.int .i64 2, .int .i64 (pl : Int), .string Hu, .int .i64 (v : Int)] 64)).drew).cell? ⟨X1.heap.size, 1, none⟩ = some (.int .i64 (pl : Int)) := y 1 _ rfl
              have y2 : ((X1.alloc (.cells #[.int .i64 2, .int .i64 (pl : Int), .string Hu, .int .i64 (v : Int)] 64)).drew).cell? ⟨X1.heap.size, 2, none⟩ = some (.string Hu) := y 2 _ rfl
              have y3 : ((X1.alloc (.cells #[.int .i64 2, .int .i64 (pl : Int), .string Hu, .int .i64 (v : Int)] 64)).drew).cell? ⟨X1.heap.size, 3, none⟩ = some (.int .i64 (v : Int)) := y 3 _ rfl
              clear y kA
              generalize ((X1.alloc (.cells #[.int .i64 2, .int .i64 (pl : Int), .string Hu, .int .i64 (v : Int)] 64)).drew) = X2 at *
              have hBX2 := hBX.trans (hD2.mono hBX.size)
              have z0 := cell_later hD2 x0
              have za0 := cell_later hD2 xa0
              have za1 := cell_later hD2 xa1
              have za2 := cell_later hD2 xa2
              have za3 := cell_later hD2 xa3
              have zdv := cell_later hD2 xdv
              clear x0 xa0 xa1 xa2 xa3 xd0 xd1 xd2 xd3 xdv hD2
              go_upto_region 28 with fail
              go_quiet (fail)
              have hD3 : Below X2.heap.size X2 (X2.drewN nq) := below_drewN _ _
              generalize X2.drewN nq = X3 at *
              have hBX3 := hBX2.trans (hD3.mono hBX2.size)
              have k0 := cell_later hD3 z0
              have ka2 := cell_later hD3 za2
              have k3 := cell_later hD3 y3
              have kdv := cell_later hD3 zdv
              clear z0 za0 za1 za2 za3 zdv y0 y1 y2 y3 hD3
              go_upto_region 30 with fail
              go_region_held3 (fun w' => w'.cell? ⟨w1.heap.size, 0, none⟩ = some (.slice (some ⟨g, 0, none⟩) W.prog.length cap) ∧ w'.cell? ⟨ga, j * 5 + 2, none⟩ = some (.string Lk) ∧ w'.cell? ⟨X1.heap.size, 3, none⟩ = some (.int .i64 (v : Int)) ∧ w'.cell? ⟨g, v * 4 + 2, none⟩ = some (.string Hv))
                (first | exact ⟨k0, ka2, k3, kdv⟩ | exact ⟨cell_later (Below.refl _ _).drew k0, cell_later (Below.refl _ _).drew ka2, cell_later (Below.refl _ _).drew k3, cell_later (Below.refl _ _).drew kdv⟩ | go_keep)
                (first | (go_at_call 70; refine (hLe _).mono ?_; rintro e w5 ⟨rfl, hw⟩; have hw2 := hw.symm; clear hw; subst hw2))
              all_goals
                go_wp2
                go_roundw
                case rel => exact ⟨j + 1, by omega, by rw [← HZ.out], rfl, (by first | exact hBX3 | exact hBX3.drew)⟩
                case measure => (simp [intOf] <;> omega)
        · have hje : j = (asksW W).length := by omega
          have jl : ¬ (j : Int) < ((asksW W).length : Int) := by omega
          have hz : (wl.length : Int) - ((j - a1.length : Nat) : Int) = 0 := by rw [hje, HAL.out]; omega
          rw [hz]
          clear hje
          go_wp2
          go_ret
          exact ⟨rfl, hBw.trans (hBq.mono hBw.size)⟩
end Go.Proofs.Ytdfndcbakcmgiaa
