import Derived.Test.YtdfndcbakcmgiabDoorY7
namespace Go.Proofs.YtdfndcbakcmgiabDoor
open Go.RowKit

def w0S (t mode : Nat) : ByteArray := bt (thB (wh0 t mode))
theorem wh0_two (t : Nat) : wh0 (t + 1) 2 = wh0 t 2 ++ [.start (t + 1), .join (t + 1)] := by
  rw [wh0, wh0, if_pos rfl, if_pos rfl, show 2 * (t + 1) = 2 * t + 1 + 1 by omega, List.range_succ, List.range_succ]
  simp only [List.map_append, List.map_cons, List.map_nil, List.append_assoc, List.singleton_append]
  rw [if_pos (by omega), if_neg (by omega), show 2 * t / 2 + 1 = t + 1 by omega, show (2 * t + 1) / 2 + 1 = t + 1 by omega]
theorem wh0_one {mode : Nat} (hm : mode ≠ 2) (t : Nat) : wh0 (t + 1) mode = wh0 t mode ++ [.start (t + 1)] := by
  rw [wh0, wh0, if_neg hm, if_neg hm, wst, wst, List.range_succ, List.map_append]; rfl
theorem w0S_one {mode : Nat} (hm : mode ≠ 2) (t : Nat) : w0S t mode ++ ⟨#[62]⟩ ++ nameS (t + 1) = w0S (t + 1) mode := by
  have e : (⟨#[62]⟩ : ByteArray) = bt [62] := rfl
  have e2 : nameS (t + 1) = bt [48 + (t + 1)] := rfl
  rw [w0S, w0S, wh0_one hm, thB_app, e, e2, bt_append, bt_append, List.append_assoc]; rfl
theorem w0S_two (t : Nat) : w0S t 2 ++ ⟨#[62]⟩ ++ nameS (t + 1) ++ ⟨#[60]⟩ ++ nameS (t + 1) = w0S (t + 1) 2 := by
  have e : (⟨#[62]⟩ : ByteArray) = bt [62] := rfl
  have e3 : (⟨#[60]⟩ : ByteArray) = bt [60] := rfl
  have e2 : nameS (t + 1) = bt [48 + (t + 1)] := rfl
  rw [w0S, w0S, wh0_two, thB_app, e, e2, e3, bt_append, bt_append, bt_append, bt_append]
  congr 1
  simp [thB, Ins.bs]
theorem w0S_size (t mode : Nat) : (w0S t mode).size ≤ 4 * t := by
  rw [w0S, bt_size]
  have := thB_len (wh0 t mode)
  have hl : (wh0 t mode).length ≤ 2 * t := by
    rw [wh0]
    split
    · simp
    · simp [wst]; omega
  omega
def wtS (n mode : Nat) (R : List (List Ins)) : ByteArray := bt (txL (wh0 n mode :: R))
theorem wtS_nil (n mode : Nat) : w0S n mode = wtS n mode [] := rfl

def WhOut (n mode : Nat) (e : Ending) : Prop := ∃ P q, Whl n mode P q ∧ e = .returned (.string (bt (txL P)))
/-- The bodies that are made. -/
def WhR (n mode u : Nat) (R : List (List Ins)) : Prop := R.length = u ∧ ∀ i, i < u → ∃ d0 d1 d2, d0 < 3 ∧ d1 < 3 ∧ d2 < 3 ∧ R[i]? = some (wbody i ((i + 1) % n) (decide (mode = 1)) d0 d1 d2)
theorem whR_nil (n mode : Nat) : WhR n mode 0 [] := ⟨rfl, fun i hi => by omega⟩
theorem WhR.snoc {n mode u : Nat} {R : List (List Ins)} (h : WhR n mode u R) {d0 d1 d2 : Nat} (h0 : d0 < 3) (h1 : d1 < 3) (h2 : d2 < 3) : WhR n mode (u + 1) (R ++ [wbody u ((u + 1) % n) (decide (mode = 1)) d0 d1 d2]) := by
  obtain ⟨hl, hb⟩ := h
  refine ⟨by rw [List.length_append, hl]; rfl, fun i hi => ?_⟩
  rcases Nat.lt_or_ge i u with h | h
  · obtain ⟨e0, e1, e2, g0, g1, g2, g3⟩ := hb i h
    exact ⟨e0, e1, e2, g0, g1, g2, by rw [List.getElem?_append_left (by omega)]; exact g3⟩
  · have : i = u := by omega
    subst this
    exact ⟨d0, d1, d2, h0, h1, h2, by rw [List.getElem?_append_right (by omega), hl, Nat.sub_self]; rfl⟩
theorem body_any {n mode i : Nat} (n2 : 2 ≤ n) (n4 : n ≤ 4) (hi : i < n) {d0 d1 d2 : Nat} (h0 : d0 < 3) (h1 : d1 < 3) (h2 : d2 < 3) : ∃ q, BodyP i ((i + 1) % n) (decide (mode = 1)) q (wbody i ((i + 1) % n) (decide (mode = 1)) d0 d1 d2) := by
  obtain ⟨g1, g2⟩ := mod_ne n2 (t := i + 1) (by omega) (by omega)
  by_cases hm : mode = 1
  · rw [decide_eq_true hm]
    exact ⟨_, wheelsC_of body_yes (by omega) (by omega) (by omega) h0 h1 h2⟩
  · rw [decide_eq_false hm]
    exact ⟨_, wheelsC_of body_no (by omega) (by omega) (by omega) h0 h1 h2⟩
theorem whR_done {n mode : Nat} (n2 : 2 ≤ n) (n4 : n ≤ 4) (m3 : mode < 3) {R : List (List Ins)} (h : WhR n mode n R) : WhOut n mode (.returned (.string (wtS n mode R))) := by
  obtain ⟨hl, hb⟩ := h
  have hq : ∀ t, 1 ≤ t → t ≤ n → ∃ q, BodyP (t - 1) (t % n) (decide (mode = 1)) q (th (wh0 n mode :: R) t) := fun t h0 h1 => by
    obtain ⟨d0, d1, d2, g0, g1, g2, g3⟩ := hb (t - 1) (by omega)
    obtain ⟨q, hq⟩ := body_any (mode := mode) n2 n4 (i := t - 1) (by omega) g0 g1 g2
    have e : th (wh0 n mode :: R) t = wbody (t - 1) ((t - 1 + 1) % n) (decide (mode = 1)) d0 d1 d2 := by
      obtain ⟨v, rfl⟩ : ∃ v, t = v + 1 := ⟨t - 1, by omega⟩
      rw [th, List.getElem?_cons_succ]
      rw [show v + 1 - 1 = v by omega] at g3 ⊢
      rw [g3]; rfl
    rw [show t - 1 + 1 = t by omega] at hq e
    exact ⟨q, by rw [e]; exact hq⟩
  refine ⟨wh0 n mode :: R, fun t => if h : 1 ≤ t ∧ t ≤ n then Classical.choose (hq t h.1 h.2) else 0, ⟨n2, n4, m3, by simp [hl], rfl, fun t h0 h1 => ?_⟩, rfl⟩
  simp only [dif_pos (show 1 ≤ t ∧ t ≤ n from ⟨h0, h1⟩)]
  exact Classical.choose_spec (hq t h0 h1)
theorem conv_x (w : World) (x : Int) (b : Nat) (h0 : x = b) : (convert 47 9 (.slice (some ⟨w.heap.size, 0, none⟩) 1 1)).run Tryd.prog (w.alloc (.cells #[.int .u8 x] 5)) = .ok (.string (chS b)) (w.alloc (.cells #[.int .u8 x] 5)) := by
  have h := conv1 w x
  rw [show x.toNat = b by omega] at h
  exact h
def duS (a b : Nat) : ByteArray := bt [a, b]
theorem duS_size (a b : Nat) : (duS a b).size = 2 := rfl
theorem conv_xy (w : World) (x y : Int) (a b : Nat) (h0 : x = a) (h1 : y = b) : (convert 47 9 (.slice (some ⟨w.heap.size, 0, none⟩) 2 2)).run Tryd.prog (w.alloc (.cells #[.int .u8 x, .int .u8 y] 5)) = .ok (.string (duS a b)) (w.alloc (.cells #[.int .u8 x, .int .u8 y] 5)) := by
  have h := run_convert_bytes_arg (P := Tryd.prog) (w.alloc (.cells #[.int .u8 x, .int .u8 y] 5)) 47 5 Tryd.underlying47 Tryd.underlying5 w.heap.size 0 2 2 [x, y] rfl (by
    intro i hi
    have hi0 : i = 0 ∨ i = 1 := by omega
    rcases hi0 with rfl | rfl
    · rw [cell_of_row _ _ _ _ _ _ (heap_alloc_new w _)]; rfl
    · rw [cell_of_row _ _ _ _ _ _ (heap_alloc_new w _)]; rfl) 9 Tryd.underlying9
  have e : (⟨#[UInt8.ofNat x.toNat, UInt8.ofNat y.toNat]⟩ : ByteArray) = duS a b := by
    rw [show x.toNat = a by omega, show y.toNat = b by omega]; rfl
  rw [← e]
  exact h
theorem thB_dots (d : Nat) : thB (List.replicate d .dot) = List.replicate d 46 := by
  induction d with
  | zero => rfl
  | succ d ih => rw [List.replicate_succ, List.replicate_succ, ← ih]; rfl
theorem thB_cons (i : Ins) (T : List Ins) : thB (i :: T) = i.bs ++ thB T := by simp [thB]
theorem wtS_snoc (n mode : Nat) (R : List (List Ins)) (T : List Ins) : wtS n mode (R ++ [T]) = wtS n mode R ++ bt (59 :: thB T) := by
  rw [wtS, wtS, txL_cons, txL_cons, bt_append]
  congr 1
  simp [bdL]
theorem wtS_no (n mode : Nat) (R : List (List Ins)) (u r d0 d1 d2 : Nat) : wtS n mode R ++ ⟨#[59]⟩ ++ dtS d0 ++ chS (97 + u) ++ dtS d1 ++ chS (97 + r) ++ dtS d2 ++ duS (65 + u) (65 + r) = wtS n mode (R ++ [wbody u r false d0 d1 d2]) := by
  have e : (⟨#[59]⟩ : ByteArray) = bt [59] := rfl
  rw [wtS_snoc, wbody, thB_app, thB_app, thB_cons, thB_app, thB_cons, thB_app, thB_dots, thB_dots, thB_dots, e, dtS, dtS, dtS, chS, chS, duS]
  simp only [wtS, bt_append]
  congr 1
  simp [thB, Ins.bs]
theorem wtS_yes (n mode : Nat) (R : List (List Ins)) (u r d0 d1 d2 : Nat) : wtS n mode R ++ ⟨#[59]⟩ ++ dtS d0 ++ ⟨#[102]⟩ ++ chS (97 + u) ++ dtS d1 ++ chS (97 + r) ++ dtS d2 ++ duS (65 + u) (65 + r) ++ ⟨#[70]⟩ = wtS n mode (R ++ [wbody u r true d0 d1 d2]) := by
  have e : (⟨#[59]⟩ : ByteArray) = bt [59] := rfl
  have e2 : (⟨#[102]⟩ : ByteArray) = bt [102] := rfl
  have e3 : (⟨#[70]⟩ : ByteArray) = bt [70] := rfl
  rw [wtS_snoc, wbody, thB_app, thB_app, thB_cons, thB_app, thB_cons, thB_app, thB_dots, thB_dots, thB_dots, e, e2, e3, dtS, dtS, dtS, chS, chS, duS]
  simp only [wtS, bt_append]
  congr 1
  simp [thB, Ins.bs]
theorem wtS_size {n mode u : Nat} {R : List (List Ins)} (n2 : 2 ≤ n) (n4 : n ≤ 4) (hu : u ≤ n) (h : WhR n mode u R) : (wtS n mode R).size ≤ 125 := by
  rw [wtS, bt_size]
  have h1 := txL_len (wh0 n mode :: R) (fun T hT => by
    rcases List.mem_cons.1 hT with rfl | hT
    · rw [wh0]
      split
      · simp; omega
      · simp [wst]; omega
    · obtain ⟨i, hi⟩ := List.getElem?_of_mem hT
      have hiu : i < u := by rw [← h.1]; exact (List.getElem?_eq_some_iff.1 hi).1
      obtain ⟨d0, d1, d2, g0, g1, g2, g3⟩ := h.2 i hiu
      rw [hi] at g3
      cases g3
      obtain ⟨q, hq⟩ := body_any (mode := mode) n2 n4 (i := i) (by omega) g0 g1 g2
      exact hq.1)
  have := h.1
  simp only [List.length_cons] at h1
  omega

set_option maxRecDepth 100000 in
set_option maxHeartbeats 2000000 in
theorem wheel_0 (n : Nat) (n2 : 2 ≤ n) (n4 : n ≤ 4) (nI : Int) (hnI : nI = n) (a : Option Addr) (c : Nat) (raw : List Int) (len : Nat) (hlen : len = raw.length) (hi : ∀ x ∈ raw, -9223372036854775808 ≤ x ∧ x ≤ 9223372036854775807) (w : World) (hA : IntsAt w a raw) :
    Calls Tryd.prog 7 #[.int .i64 nI, .int .i64 0, .slice a len c] w fun e w' => WhOut n 0 e ∧ Below w.heap.size w w' := by
  have hDt := fun (i : Nat) w hA => dots_any a c raw len hlen hi i w hA
  subst hlen hnI
  have HA := show Hid _ from hA
  have HDt := show Hid _ from hDt
  clear hi hA hDt
  go_enter Tryd.func7, Tryd.ntmps7
  go_wp2
  go_loopw [7, 8] (fun x v wr => ∃ t : Nat, t ≤ n ∧ x = .string (w0S t 0) ∧ v = .int .i64 ((t : Int) + 1) ∧ Below w.heap.size w wr) (fun _ v _ => 6 - (intOf v).toNat)
  case atStart => exact ⟨0, by omega, rfl, rfl, Below.refl _ _⟩
  case round =>
    obtain ⟨t, ht, rfl, rfl, hB⟩ := hrel
    obtain ⟨z, hz⟩ : ∃ z, (w0S t 0).size = z := ⟨_, rfl⟩
    have hz100 : z ≤ 16 := by have := w0S_size t 0; omega
    by_cases htn : t < n
    · have tn : (t : Int) + 1 ≤ (n : Int) := by omega
      have hDg : ∀ w, Calls Tryd.prog 14 #[.int .i64 ((t : Int) + 1)] w fun e w' => e = .returned (.string (nameS (t + 1))) ∧ Below w.heap.size w w' := fun w => by
        have h := digit_any (t + 1) w (by omega)
        rwa [show ((t + 1 : Nat) : Int) = (t : Int) + 1 by omega] at h
      have ns := nameS_size (t + 1)
      have st1 := w0S_one (mode := 0) (by decide) t
      go_wp2_with (first
        | (go_at_call 14; refine (hDg _).mono ?_; rintro e w2 ⟨rfl, hb2⟩))
      go_roundw
      case rel => exact ⟨t + 1, by omega, rfl, by go_num, hB.trans (hb2.mono hB.size)⟩
      case measure => (simp [intOf] <;> omega)
    · have tn : ¬ (t : Int) + 1 ≤ (n : Int) := by omega
      have hte : t = n := by omega
      subst hte
      clear hz hz100
      have hw0 := wtS_nil t 0
      go_wp2
      go_loopw [7, 9] (fun x v wq => ∃ (u : Nat) (R : List (List Ins)), u ≤ t ∧ Hid (WhR t 0 u R) ∧ x = .string (wtS t 0 R) ∧ v = .int .i64 ((u : Int) + 1) ∧ Below w.heap.size w wq) (fun _ v _ => 6 - (intOf v).toNat)
      case atStart => exact ⟨0, [], by omega, whR_nil _ _, rfl, rfl, hB⟩
      case round =>
        clear hB
        obtain ⟨u, R, hu, HR, rfl, rfl, hB⟩ := hrel
        by_cases hun : u < t
        · have un : (u : Int) + 1 ≤ (t : Int) := by omega
          obtain ⟨r, hr⟩ : ∃ r, (u + 1) % t = r := ⟨_, rfl⟩
          have hr4 : r < 4 := by have := Nat.mod_lt (u + 1) (show 0 < t by omega); omega
          have hrem : Int.tmod ((u : Int) + 1) (t : Int) = (r : Int) := by
            rw [Int.tmod_eq_emod_of_nonneg (by omega), ← hr, Int.natCast_emod]; rfl
          have HRm : Hid ((u + 1) % t = r) := hr
          clear hr
          have u3 : u < 4 := by omega
          have c1 := conv_x wr (97 + ((u : Int) + 1) - 1) (97 + u) (by omega)
          have c2 := conv_x (wr.alloc (.cells #[.int .u8 (97 + ((u : Int) + 1) - 1)] 5)) (97 + (r : Int)) (97 + r) (by omega)
          have c3 := conv_xy ((wr.alloc (.cells #[.int .u8 (97 + ((u : Int) + 1) - 1)] 5)).alloc (.cells #[.int .u8 (97 + (r : Int))] 5)) (65 + ((u : Int) + 1) - 1) (65 + (r : Int)) (65 + u) (65 + r) (by omega) (by omega)
          rw [show (wr.alloc (.cells #[.int .u8 (97 + ((u : Int) + 1) - 1)] 5)).heap.size = wr.heap.size + 1 by simp] at c2
          rw [show ((wr.alloc (.cells #[.int .u8 (97 + ((u : Int) + 1) - 1)] 5)).alloc (.cells #[.int .u8 (97 + (r : Int))] 5)).heap.size = wr.heap.size + 1 + 1 by simp] at c3
          have hB1 := hB.alloc hB.size (.cells #[.int .u8 (97 + ((u : Int) + 1) - 1)] 5)
          have hB2 := hB1.alloc hB1.size (.cells #[.int .u8 (97 + (r : Int))] 5)
          have hB3 := hB2.alloc hB2.size (.cells #[.int .u8 (65 + ((u : Int) + 1) - 1), .int .u8 (65 + (r : Int))] 5)
          have s1 := chS_size (97 + u)
          have s2 := chS_size (97 + r)
          have s3 := duS_size (65 + u) (65 + r)
          obtain ⟨z, hz⟩ : ∃ z, (wtS t 0 R).size = z := ⟨_, rfl⟩
          have hz125 : z ≤ 125 := by have := wtS_size n2 n4 hu HR.out; omega
          go_upto_region 14 with fail
          generalize ((wr.alloc (.cells #[.int .u8 (97 + ((u : Int) + 1) - 1)] 5)).alloc (.cells #[.int .u8 (97 + (r : Int))] 5)).alloc (.cells #[.int .u8 (65 + ((u : Int) + 1) - 1), .int .u8 (65 + (r : Int))] 5) = X at *
          have hD : ∀ i : Int, 0 ≤ i → Calls Tryd.prog 17 #[.slice a raw.length c, .int .i64 i] X fun e w' => DtOut e ∧ w' = X := fun i hi => by
            obtain ⟨j, rfl⟩ : ∃ j : Nat, i = j := ⟨i.toNat, by omega⟩
            exact HDt.out j X (fun k x hx => by
              obtain ⟨g, o, e1, e2⟩ := HA.out k x hx
              exact ⟨g, o, e1, cell_later hB3 e2⟩)
          clear c1 c2 c3 hB1 hB2
          go_upto_region 17 with (first
            | (go_at_call 17; refine (hD _ (by omega)).mono ?_; rintro e w1 ⟨⟨d0, hd0, rfl⟩, hw⟩; have hw2 := hw.symm; clear hw; subst hw2; have sd0 := dtS_size d0))
          go_wp2_with (first
            | (go_at_call 17; refine (hD _ (by omega)).mono ?_; first | (have hx := hd1; rintro e w1 ⟨⟨d2, hd2, rfl⟩, hw⟩; have hw2 := hw.symm; clear hw; subst hw2; have sd2 := dtS_size d2; have st := wtS_no t 0 R u r d0 d1 d2) | (rintro e w1 ⟨⟨d1, hd1, rfl⟩, hw⟩; have hw2 := hw.symm; clear hw; subst hw2; have sd1 := dtS_size d1)))
          go_roundw
          case rel =>
            refine ⟨u + 1, R ++ [wbody u r false d0 d1 d2], by omega, ?_, rfl, by go_num, hB3⟩
            have := HR.out.snoc hd0 hd1 hd2
            rw [HRm.out] at this
            exact this
          case measure => (simp [intOf] <;> omega)

        · have un : ¬ (u : Int) + 1 ≤ (t : Int) := by omega
          have hue : u = t := by omega
          go_wp2
          go_ret
          exact ⟨whR_done n2 n4 (by decide) (hue ▸ HR.out), hB⟩

set_option maxRecDepth 100000 in
set_option maxHeartbeats 2000000 in
theorem wheel_1 (n : Nat) (n2 : 2 ≤ n) (n4 : n ≤ 4) (nI : Int) (hnI : nI = n) (a : Option Addr) (c : Nat) (raw : List Int) (len : Nat) (hlen : len = raw.length) (hi : ∀ x ∈ raw, -9223372036854775808 ≤ x ∧ x ≤ 9223372036854775807) (w : World) (hA : IntsAt w a raw) :
    Calls Tryd.prog 7 #[.int .i64 nI, .int .i64 1, .slice a len c] w fun e w' => WhOut n 1 e ∧ Below w.heap.size w w' := by
  have hDt := fun (i : Nat) w hA => dots_any a c raw len hlen hi i w hA
  subst hlen hnI
  have HA := show Hid _ from hA
  have HDt := show Hid _ from hDt
  clear hi hA hDt
  go_enter Tryd.func7, Tryd.ntmps7
  go_wp2
  go_loopw [7, 8] (fun x v wr => ∃ t : Nat, t ≤ n ∧ x = .string (w0S t 1) ∧ v = .int .i64 ((t : Int) + 1) ∧ Below w.heap.size w wr) (fun _ v _ => 6 - (intOf v).toNat)
  case atStart => exact ⟨0, by omega, rfl, rfl, Below.refl _ _⟩
  case round =>
    obtain ⟨t, ht, rfl, rfl, hB⟩ := hrel
    obtain ⟨z, hz⟩ : ∃ z, (w0S t 1).size = z := ⟨_, rfl⟩
    have hz100 : z ≤ 16 := by have := w0S_size t 1; omega
    by_cases htn : t < n
    · have tn : (t : Int) + 1 ≤ (n : Int) := by omega
      have hDg : ∀ w, Calls Tryd.prog 14 #[.int .i64 ((t : Int) + 1)] w fun e w' => e = .returned (.string (nameS (t + 1))) ∧ Below w.heap.size w w' := fun w => by
        have h := digit_any (t + 1) w (by omega)
        rwa [show ((t + 1 : Nat) : Int) = (t : Int) + 1 by omega] at h
      have ns := nameS_size (t + 1)
      have st1 := w0S_one (mode := 1) (by decide) t
      go_wp2_with (first
        | (go_at_call 14; refine (hDg _).mono ?_; rintro e w2 ⟨rfl, hb2⟩))
      go_roundw
      case rel => exact ⟨t + 1, by omega, rfl, by go_num, hB.trans (hb2.mono hB.size)⟩
      case measure => (simp [intOf] <;> omega)
    · have tn : ¬ (t : Int) + 1 ≤ (n : Int) := by omega
      have hte : t = n := by omega
      subst hte
      clear hz hz100
      have hw0 := wtS_nil t 1
      go_wp2
      go_loopw [7, 9] (fun x v wq => ∃ (u : Nat) (R : List (List Ins)), u ≤ t ∧ Hid (WhR t 1 u R) ∧ x = .string (wtS t 1 R) ∧ v = .int .i64 ((u : Int) + 1) ∧ Below w.heap.size w wq) (fun _ v _ => 6 - (intOf v).toNat)
      case atStart => exact ⟨0, [], by omega, whR_nil _ _, rfl, rfl, hB⟩
      case round =>
        clear hB
        obtain ⟨u, R, hu, HR, rfl, rfl, hB⟩ := hrel
        by_cases hun : u < t
        · have un : (u : Int) + 1 ≤ (t : Int) := by omega
          obtain ⟨r, hr⟩ : ∃ r, (u + 1) % t = r := ⟨_, rfl⟩
          have hr4 : r < 4 := by have := Nat.mod_lt (u + 1) (show 0 < t by omega); omega
          have hrem : Int.tmod ((u : Int) + 1) (t : Int) = (r : Int) := by
            rw [Int.tmod_eq_emod_of_nonneg (by omega), ← hr, Int.natCast_emod]; rfl
          have HRm : Hid ((u + 1) % t = r) := hr
          clear hr
          have u3 : u < 4 := by omega
          have c1 := conv_x wr (97 + ((u : Int) + 1) - 1) (97 + u) (by omega)
          have c2 := conv_x (wr.alloc (.cells #[.int .u8 (97 + ((u : Int) + 1) - 1)] 5)) (97 + (r : Int)) (97 + r) (by omega)
          have c3 := conv_xy ((wr.alloc (.cells #[.int .u8 (97 + ((u : Int) + 1) - 1)] 5)).alloc (.cells #[.int .u8 (97 + (r : Int))] 5)) (65 + ((u : Int) + 1) - 1) (65 + (r : Int)) (65 + u) (65 + r) (by omega) (by omega)
          rw [show (wr.alloc (.cells #[.int .u8 (97 + ((u : Int) + 1) - 1)] 5)).heap.size = wr.heap.size + 1 by simp] at c2
          rw [show ((wr.alloc (.cells #[.int .u8 (97 + ((u : Int) + 1) - 1)] 5)).alloc (.cells #[.int .u8 (97 + (r : Int))] 5)).heap.size = wr.heap.size + 1 + 1 by simp] at c3
          have hB1 := hB.alloc hB.size (.cells #[.int .u8 (97 + ((u : Int) + 1) - 1)] 5)
          have hB2 := hB1.alloc hB1.size (.cells #[.int .u8 (97 + (r : Int))] 5)
          have hB3 := hB2.alloc hB2.size (.cells #[.int .u8 (65 + ((u : Int) + 1) - 1), .int .u8 (65 + (r : Int))] 5)
          have s1 := chS_size (97 + u)
          have s2 := chS_size (97 + r)
          have s3 := duS_size (65 + u) (65 + r)
          obtain ⟨z, hz⟩ : ∃ z, (wtS t 1 R).size = z := ⟨_, rfl⟩
          have hz125 : z ≤ 125 := by have := wtS_size n2 n4 hu HR.out; omega
          go_upto_region 14 with fail
          generalize ((wr.alloc (.cells #[.int .u8 (97 + ((u : Int) + 1) - 1)] 5)).alloc (.cells #[.int .u8 (97 + (r : Int))] 5)).alloc (.cells #[.int .u8 (65 + ((u : Int) + 1) - 1), .int .u8 (65 + (r : Int))] 5) = X at *
          have hD : ∀ i : Int, 0 ≤ i → Calls Tryd.prog 17 #[.slice a raw.length c, .int .i64 i] X fun e w' => DtOut e ∧ w' = X := fun i hi => by
            obtain ⟨j, rfl⟩ : ∃ j : Nat, i = j := ⟨i.toNat, by omega⟩
            exact HDt.out j X (fun k x hx => by
              obtain ⟨g, o, e1, e2⟩ := HA.out k x hx
              exact ⟨g, o, e1, cell_later hB3 e2⟩)
          clear c1 c2 c3 hB1 hB2
          go_upto_region 16 with (first
            | (go_at_call 17; refine (hD _ (by omega)).mono ?_; rintro e w1 ⟨⟨d0, hd0, rfl⟩, hw⟩; have hw2 := hw.symm; clear hw; subst hw2; have sd0 := dtS_size d0))
          go_wp2_with (first
            | (go_at_call 17; refine (hD _ (by omega)).mono ?_; first | (have hx := hd1; rintro e w1 ⟨⟨d2, hd2, rfl⟩, hw⟩; have hw2 := hw.symm; clear hw; subst hw2; have sd2 := dtS_size d2; have st := wtS_yes t 1 R u r d0 d1 d2) | (rintro e w1 ⟨⟨d1, hd1, rfl⟩, hw⟩; have hw2 := hw.symm; clear hw; subst hw2; have sd1 := dtS_size d1)))
          go_roundw
          case rel =>
            refine ⟨u + 1, R ++ [wbody u r true d0 d1 d2], by omega, ?_, rfl, by go_num, hB3⟩
            have := HR.out.snoc hd0 hd1 hd2
            rw [HRm.out] at this
            exact this
          case measure => (simp [intOf] <;> omega)

        · have un : ¬ (u : Int) + 1 ≤ (t : Int) := by omega
          have hue : u = t := by omega
          go_wp2
          go_ret
          exact ⟨whR_done n2 n4 (by decide) (hue ▸ HR.out), hB⟩

set_option maxRecDepth 100000 in
set_option maxHeartbeats 2000000 in
theorem wheel_2 (n : Nat) (n2 : 2 ≤ n) (n4 : n ≤ 4) (nI : Int) (hnI : nI = n) (a : Option Addr) (c : Nat) (raw : List Int) (len : Nat) (hlen : len = raw.length) (hi : ∀ x ∈ raw, -9223372036854775808 ≤ x ∧ x ≤ 9223372036854775807) (w : World) (hA : IntsAt w a raw) :
    Calls Tryd.prog 7 #[.int .i64 nI, .int .i64 2, .slice a len c] w fun e w' => WhOut n 2 e ∧ Below w.heap.size w w' := by
  have hDt := fun (i : Nat) w hA => dots_any a c raw len hlen hi i w hA
  subst hlen hnI
  have HA := show Hid _ from hA
  have HDt := show Hid _ from hDt
  clear hi hA hDt
  go_enter Tryd.func7, Tryd.ntmps7
  go_wp2
  go_loopw [7, 8] (fun x v wr => ∃ t : Nat, t ≤ n ∧ x = .string (w0S t 2) ∧ v = .int .i64 ((t : Int) + 1) ∧ Below w.heap.size w wr) (fun _ v _ => 6 - (intOf v).toNat)
  case atStart => exact ⟨0, by omega, rfl, rfl, Below.refl _ _⟩
  case round =>
    obtain ⟨t, ht, rfl, rfl, hB⟩ := hrel
    obtain ⟨z, hz⟩ : ∃ z, (w0S t 2).size = z := ⟨_, rfl⟩
    have hz100 : z ≤ 16 := by have := w0S_size t 2; omega
    by_cases htn : t < n
    · have tn : (t : Int) + 1 ≤ (n : Int) := by omega
      have hDg : ∀ w, Calls Tryd.prog 14 #[.int .i64 ((t : Int) + 1)] w fun e w' => e = .returned (.string (nameS (t + 1))) ∧ Below w.heap.size w w' := fun w => by
        have h := digit_any (t + 1) w (by omega)
        rwa [show ((t + 1 : Nat) : Int) = (t : Int) + 1 by omega] at h
      have ns := nameS_size (t + 1)
      have st1 := w0S_two t
      go_upto_region 6 with (first
        | (go_at_call 14; refine (hDg _).mono ?_; rintro e w2 ⟨rfl, hb2⟩))
      go_wp2_with (first
        | (go_at_call 14; refine (hDg _).mono ?_; rintro e w3 ⟨rfl, hb3⟩))
      go_roundw
      case rel =>
        have hb23 := hb2.trans (hb3.mono hb2.size)
        exact ⟨t + 1, by omega, rfl, by go_num, hB.trans (hb23.mono hB.size)⟩
      case measure => (simp [intOf] <;> omega)
    · have tn : ¬ (t : Int) + 1 ≤ (n : Int) := by omega
      have hte : t = n := by omega
      subst hte
      clear hz hz100
      have hw0 := wtS_nil t 2
      go_wp2
      go_loopw [7, 9] (fun x v wq => ∃ (u : Nat) (R : List (List Ins)), u ≤ t ∧ Hid (WhR t 2 u R) ∧ x = .string (wtS t 2 R) ∧ v = .int .i64 ((u : Int) + 1) ∧ Below w.heap.size w wq) (fun _ v _ => 6 - (intOf v).toNat)
      case atStart => exact ⟨0, [], by omega, whR_nil _ _, rfl, rfl, hB⟩
      case round =>
        clear hB
        obtain ⟨u, R, hu, HR, rfl, rfl, hB⟩ := hrel
        by_cases hun : u < t
        · have un : (u : Int) + 1 ≤ (t : Int) := by omega
          obtain ⟨r, hr⟩ : ∃ r, (u + 1) % t = r := ⟨_, rfl⟩
          have hr4 : r < 4 := by have := Nat.mod_lt (u + 1) (show 0 < t by omega); omega
          have hrem : Int.tmod ((u : Int) + 1) (t : Int) = (r : Int) := by
            rw [Int.tmod_eq_emod_of_nonneg (by omega), ← hr, Int.natCast_emod]; rfl
          have HRm : Hid ((u + 1) % t = r) := hr
          clear hr
          have u3 : u < 4 := by omega
          have c1 := conv_x wr (97 + ((u : Int) + 1) - 1) (97 + u) (by omega)
          have c2 := conv_x (wr.alloc (.cells #[.int .u8 (97 + ((u : Int) + 1) - 1)] 5)) (97 + (r : Int)) (97 + r) (by omega)
          have c3 := conv_xy ((wr.alloc (.cells #[.int .u8 (97 + ((u : Int) + 1) - 1)] 5)).alloc (.cells #[.int .u8 (97 + (r : Int))] 5)) (65 + ((u : Int) + 1) - 1) (65 + (r : Int)) (65 + u) (65 + r) (by omega) (by omega)
          rw [show (wr.alloc (.cells #[.int .u8 (97 + ((u : Int) + 1) - 1)] 5)).heap.size = wr.heap.size + 1 by simp] at c2
          rw [show ((wr.alloc (.cells #[.int .u8 (97 + ((u : Int) + 1) - 1)] 5)).alloc (.cells #[.int .u8 (97 + (r : Int))] 5)).heap.size = wr.heap.size + 1 + 1 by simp] at c3
          have hB1 := hB.alloc hB.size (.cells #[.int .u8 (97 + ((u : Int) + 1) - 1)] 5)
          have hB2 := hB1.alloc hB1.size (.cells #[.int .u8 (97 + (r : Int))] 5)
          have hB3 := hB2.alloc hB2.size (.cells #[.int .u8 (65 + ((u : Int) + 1) - 1), .int .u8 (65 + (r : Int))] 5)
          have s1 := chS_size (97 + u)
          have s2 := chS_size (97 + r)
          have s3 := duS_size (65 + u) (65 + r)
          obtain ⟨z, hz⟩ : ∃ z, (wtS t 2 R).size = z := ⟨_, rfl⟩
          have hz125 : z ≤ 125 := by have := wtS_size n2 n4 hu HR.out; omega
          go_upto_region 14 with fail
          generalize ((wr.alloc (.cells #[.int .u8 (97 + ((u : Int) + 1) - 1)] 5)).alloc (.cells #[.int .u8 (97 + (r : Int))] 5)).alloc (.cells #[.int .u8 (65 + ((u : Int) + 1) - 1), .int .u8 (65 + (r : Int))] 5) = X at *
          have hD : ∀ i : Int, 0 ≤ i → Calls Tryd.prog 17 #[.slice a raw.length c, .int .i64 i] X fun e w' => DtOut e ∧ w' = X := fun i hi => by
            obtain ⟨j, rfl⟩ : ∃ j : Nat, i = j := ⟨i.toNat, by omega⟩
            exact HDt.out j X (fun k x hx => by
              obtain ⟨g, o, e1, e2⟩ := HA.out k x hx
              exact ⟨g, o, e1, cell_later hB3 e2⟩)
          clear c1 c2 c3 hB1 hB2
          go_upto_region 17 with (first
            | (go_at_call 17; refine (hD _ (by omega)).mono ?_; rintro e w1 ⟨⟨d0, hd0, rfl⟩, hw⟩; have hw2 := hw.symm; clear hw; subst hw2; have sd0 := dtS_size d0))
          go_wp2_with (first
            | (go_at_call 17; refine (hD _ (by omega)).mono ?_; first | (have hx := hd1; rintro e w1 ⟨⟨d2, hd2, rfl⟩, hw⟩; have hw2 := hw.symm; clear hw; subst hw2; have sd2 := dtS_size d2; have st := wtS_no t 2 R u r d0 d1 d2) | (rintro e w1 ⟨⟨d1, hd1, rfl⟩, hw⟩; have hw2 := hw.symm; clear hw; subst hw2; have sd1 := dtS_size d1)))
          go_roundw
          case rel =>
            refine ⟨u + 1, R ++ [wbody u r false d0 d1 d2], by omega, ?_, rfl, by go_num, hB3⟩
            have := HR.out.snoc hd0 hd1 hd2
            rw [HRm.out] at this
            exact this
          case measure => (simp [intOf] <;> omega)

        · have un : ¬ (u : Int) + 1 ≤ (t : Int) := by omega
          have hue : u = t := by omega
          go_wp2
          go_ret
          exact ⟨whR_done n2 n4 (by decide) (hue ▸ HR.out), hB⟩
end Go.Proofs.YtdfndcbakcmgiabDoor
namespace Go.Proofs.YtdfndcbakcmgiabDoor
open Go.RowKit

def vdOf (mode : Nat) : Int := if mode = 1 then 1 else if mode = 2 then 2 else 4
/-- All that the calls answer of a wheel. -/
structure Tld (n mode : Nat) (s picks : ByteArray) (ms : List Nat) (h : Int) (la : List Aq) (ix : Nat → Nat) (sc : List Nat) : Prop where
  how : h = 1 ∨ (h = 2 ∧ mode = 0)
  sc60 : sc.length ≤ 60
  la100 : la.length ≤ 100
  run : ∀ w, Calls Tryd.prog 8 #[.string s, .string picks] w fun e w' => e = .returned (.tuple #[.string (digS ms), .int .i64 h, .int .i64 0]) ∧ Below w.heap.size w w'
  ask : ∀ w, Calls Tryd.prog 9 #[.string s, .string (digS ms)] w fun e w' => ∃ g c, e = .returned (.tuple #[.slice (some ⟨g, 0, none⟩) la.length c, .int .i64 0]) ∧ Below w.heap.size w w' ∧ AqsAt w' (some ⟨g, 0, none⟩) la
  pre : ∀ w, Calls Tryd.prog 10 #[.string s, .string (digS ms), .int .i64 100] w fun e w' => ∃ g c, e = .returned (.tuple #[.slice (some ⟨g, 0, none⟩) 1 c, .bool false, .int .i64 0]) ∧ Below w.heap.size w w' ∧ RpsAt w' (some ⟨g, 0, none⟩) [⟨whC n ix, vdOf mode, sc⟩] w.heap.size
  ths : ∀ i, i < n → ix (i + 1) < la.length ∧ (aqOf la (ix (i + 1))).th = i + 1
  seaN : mode ≠ 0 → ∃ f : Int, (f = 2 ∨ f = 3) ∧ ∀ w, Calls Tryd.prog 11 #[.string s, .int .i64 400] w fun e w' => e = .returned (.tuple #[.string ⟨#[]⟩, .int .i64 f, .int .i64 0]) ∧ Below w.heap.size w w'
  seaY : mode = 0 → ∃ (l : List Nat) (f : Int), (∀ w, Calls Tryd.prog 11 #[.string s, .int .i64 400] w fun e w' => e = .returned (.tuple #[.string (digS l), .int .i64 f, .int .i64 0]) ∧ Below w.heap.size w w') ∧
      ((f = 1 ∧ l.length ≤ sc.length ∧ ∀ w, Calls Tryd.prog 12 #[.string s, .string (digS l)] w fun e w' => e = .returned (.bool true) ∧ Below w.heap.size w w') ∨ (f = 3 ∧ 2 < n))
theorem aqs1_len (log : List Ev) : ∀ t, (aqs1 log t).length ≤ t
  | 0 => Nat.le_refl _
  | t + 1 => by
    rw [aqs1, List.length_append]
    have := aqs1_len log t
    cases log[t]? with
    | none => simp; omega
    | some e =>
      simp only [Option.map_some, Option.getD_some]
      split <;> simp <;> omega
theorem tld_of {n mode : Nat} {P : List (List Ins)} {q : Nat → Nat} (C : Whl n mode P q) (picks : ByteArray) : ∃ ms h la ix sc, Tld n mode (bt (txL P)) picks ms h la ix sc := by
  obtain ⟨h0, hp⟩ := C.parse
  generalize bt (txL P) = s at *
  have I0 := begin_inv s h0
  obtain ⟨ms, hh, WE, hr, hl60, hms5, hRun, hPr⟩ := run_told s picks h0
  have hg := hr.goes
  obtain ⟨hs, hn, hhow⟩ := wh_how C I0 hp hr
  obtain ⟨ix, A⟩ := wask_of C I0 hp hg hn
  have hfi := wh_find C.n2 C.n4 A
  have hvd := wh_verdict C I0 hp hg hn A
  have hto : toLoop (digS ms) (beginW (thLoop s 0 0 [])) 0 = some WE := by
    rw [toLoop_dig _ I0 _ (fun t ht => by have := hms5 t ht; omega)]; exact hg
  have hszk : (digS ms).size ≤ maxLen := by rw [digS_size]; unfold maxLen; omega
  have AW := askW_to h0 hto
  have hak := aqsW_ak AW
  have hlal : (aqsW WE).length = (asksW WE).length := by rw [← hak, List.length_map]
  have hAs := fun w => asks_ok s (digS ms) hszk w h0 WE hto
  rw [← hlal, ← hak] at hAs
  rw [hfi] at hPr
  have hla : (aqsW WE).length ≤ 100 := by
    have h1 := aqs1_len WE.log WE.log.length
    have h2 := wantsE_len WE WE.prog.length
    have h3 := hs.inv.small
    have h4 := hs.inv.good.n5
    rw [aqsW, List.length_append, aqs2, List.length_map]
    omega
  have hpm : whC n ix ∈ (findS (aqsW WE) 100).1 := by rw [hfi]; exact List.mem_singleton.2 rfl
  have hvd' : (rpOf WE.log (aqsW WE) (whC n ix)).vd = vdOf mode := hvd
  have hsc : (rpOf WE.log (aqsW WE) (whC n ix)).sc.length ≤ 60 := by
    by_cases h4 : (rpOf WE.log (aqsW WE) (whC n ix)).vd = 4
    · obtain ⟨V, hV, _⟩ := sure_found _ I0 hg _ hpm h4
      exact (goL_60 I0 hV).1
    · have : (judgeV WE.log (ringOf (aqsW WE) (whC n ix))).2 = [] := by
        have h4' : (judgeV WE.log (ringOf (aqsW WE) (whC n ix))).1 ≠ 4 := h4
        unfold judgeV at h4' ⊢
        split
        · rfl
        · rename_i g1
          rw [if_neg g1] at h4'
          split
          · rfl
          · rename_i g2
            rw [if_neg g2] at h4'
            split
            · rfl
            · rename_i g3
              rw [if_neg g3] at h4'
              exact absurd rfl h4'
      show (judgeV WE.log (ringOf (aqsW WE) (whC n ix))).2.length ≤ 60
      rw [this]; simp
  refine ⟨ms, hh, aqsW WE, ix, (rpOf WE.log (aqsW WE) (whC n ix)).sc, hhow, hsc, hla, hRun, fun w => (hAs w).mono ?_, fun w => (hPr w).mono ?_, fun i hi => ⟨A.lt _ (by omega) (by omega), (A.at' _ (by omega) (by omega)).1⟩, fun hm => ?_, fun hm => ?_⟩
  · rintro e w1 ⟨g, c, rfl, hb, ho⟩
    exact ⟨g, c, rfl, hb, aqsAt_of (aksAt_row (l := (aqsW WE).map Aq.ak) rfl ho)⟩
  · rintro e w1 ⟨v, us, rfl, hb, hvn, hR⟩
    obtain ⟨gv, cv, hv2⟩ := row_form (hR.fam.own (List.mem_cons_self ..)) hvn
    have hv3 : v = .slice (some ⟨gv, 0, none⟩) 1 cv := hv2
    subst hv3
    refine ⟨gv, cv, rfl, hb, ?_⟩
    have this : RpsAt w1 (some ⟨gv, 0, none⟩) [rpOf WE.log (aqsW WE) (whC n ix)] w.heap.size := reps_at (n := 1) (L := [rpOf WE.log (aqsW WE) (whC n ix)]) rfl hR
    have e : rpOf WE.log (aqsW WE) (whC n ix) = ⟨whC n ix, vdOf mode, (rpOf WE.log (aqsW WE) (whC n ix)).sc⟩ := by
      rw [← hvd']; rfl
    rw [e] at this
    exact this
  · exact search_no s h0 (fun l U hg => wh_ring C (by have := C.m3; omega) I0 hp hg)
  · subst hm
    obtain ⟨V, hV, hrV⟩ := sure_found _ I0 hg _ hpm (by rw [hvd']; rfl)
    exact wheel_search C s h0 hp hV hrV
end Go.Proofs.YtdfndcbakcmgiabDoor
