import Derived.Test.YtdfndcbakcmgiabDoorY1
import Derived.Test.YtdfndcbakcmgiabDoorL3
namespace Go.Proofs.YtdfndcbakcmgiabDoor
open Go.RowKit

theorem pickN_any (c : Int) (hc0 : -9223372036854775808 ≤ c) (hc1 : c ≤ 9223372036854775807) (n : Nat) (hn : 0 < n) (hn1 : n ≤ 1000000) (w : World) :
    Calls Tryd.prog 6 #[.int .i64 c, .int .i64 n] w fun e w' => (∃ r : Nat, r < n ∧ e = .returned (.int .i64 (r : Int))) ∧ w' = w := by
  have n0 : (0 : Int) < (n : Int) := by omega
  by_cases h : c < 0
  · have hw : IntKind.i64.wrap (c + 1) = c + 1 := by simp [IntKind.wrap, IntKind.signed, IntKind.bits]; omega
    have hw2 : IntKind.i64.wrap (-(c + 1)) = -(c + 1) := by simp [IntKind.wrap, IntKind.signed, IntKind.bits]; omega
    have hr0 := Int.emod_nonneg (-(c + 1)) (show (n : Int) ≠ 0 by omega)
    have hr1 := Int.emod_lt_of_pos (-(c + 1)) n0
    have hnn : (0 : Int) ≤ -(c + 1) := by omega
    have ht : Int.tmod (-(c + 1)) n = (-(c + 1)) % n := Int.tmod_eq_emod_of_nonneg hnn
    go_enter Tryd.func6, Tryd.ntmps6
    go_wp2
    go_ret
    exact ⟨⟨((-(c + 1)) % n).toNat, by omega, ret_int (by omega)⟩, rfl⟩
  · have hr0 := Int.emod_nonneg c (show (n : Int) ≠ 0 by omega)
    have hr1 := Int.emod_lt_of_pos c n0
    have hnn : (0 : Int) ≤ c := by omega
    have ht : Int.tmod c n = c % n := Int.tmod_eq_emod_of_nonneg hnn
    go_enter Tryd.func6, Tryd.ntmps6
    go_wp2
    go_ret
    exact ⟨⟨(c % n).toNat, by omega, ret_int (by omega)⟩, rfl⟩

/-- The parts of a thread that takes its locks in rising order. -/
structure Clb (k : Nat) (us ds : List Nat) : Prop where
  up : us.Pairwise (· < ·)
  lt : ∀ x ∈ us, x < k
  nd : ds.Nodup
  mem : ∀ x, x ∈ ds ↔ x ∈ us
  ul : us.length ≤ k
  dl : ds.length = us.length
def upS (us : List Nat) : ByteArray := bt (us.map (97 + ·))
def dnS (ds : List Nat) : ByteArray := bt (ds.map (65 + ·))
theorem Clb.skip {k : Nat} {us ds : List Nat} (h : Clb k us ds) : Clb (k + 1) us ds :=
  ⟨h.up, fun x hx => by have := h.lt x hx; omega, h.nd, h.mem, by have := h.ul; omega, h.dl⟩
theorem Clb.notin {k : Nat} {us ds : List Nat} (h : Clb k us ds) : k ∉ ds := fun hm => by
  have := h.lt k ((h.mem k).1 hm)
  omega
theorem Clb.upK {k : Nat} {us ds : List Nat} (h : Clb k us ds) : (us ++ [k]).Pairwise (· < ·) ∧ (∀ x ∈ us ++ [k], x < k + 1) ∧ (us ++ [k]).length ≤ k + 1 := by
  refine ⟨?_, fun x hx => ?_, by have := h.ul; simp; omega⟩
  · rw [List.pairwise_append]
    exact ⟨h.up, List.pairwise_singleton _ _, fun a ha b hb => by rw [List.mem_singleton.1 hb]; exact h.lt a ha⟩
  · rcases List.mem_append.1 hx with hx | hx
    · have := h.lt x hx; omega
    · rw [List.mem_singleton.1 hx]; omega
theorem Clb.last {k : Nat} {us ds : List Nat} (h : Clb k us ds) : Clb (k + 1) (us ++ [k]) (ds ++ [k]) := by
  obtain ⟨h1, h2, h3⟩ := h.upK
  refine ⟨h1, h2, ?_, fun x => ?_, h3, by have := h.dl; simp; omega⟩
  · rw [List.Nodup, List.pairwise_append]
    exact ⟨h.nd, List.pairwise_singleton _ _, fun a ha b hb e => by rw [List.mem_singleton.1 hb] at e; exact h.notin (e ▸ ha)⟩
  · rw [List.mem_append, List.mem_append, h.mem]
theorem Clb.head {k : Nat} {us ds : List Nat} (h : Clb k us ds) : Clb (k + 1) (us ++ [k]) (k :: ds) := by
  obtain ⟨h1, h2, h3⟩ := h.upK
  refine ⟨h1, h2, List.nodup_cons.2 ⟨h.notin, h.nd⟩, fun x => ?_, h3, by have := h.dl; simp; omega⟩
  rw [List.mem_cons, List.mem_append, h.mem, List.mem_singleton]
  exact ⟨fun e => e.symm, fun e => e.symm⟩
theorem thB_takes (us : List Nat) : thB (us.map Ins.take) = us.map (97 + ·) := by
  unfold thB
  induction us with
  | nil => rfl
  | cons a us ih => rw [List.map_cons, List.flatMap_cons, ih]; rfl
theorem thB_gives (ds : List Nat) : thB (ds.map Ins.give) = ds.map (65 + ·) := by
  unfold thB
  induction ds with
  | nil => rfl
  | cons a us ih => rw [List.map_cons, List.flatMap_cons, ih]; rfl
theorem thB_app (a b : List Ins) : thB (a ++ b) = thB a ++ thB b := by simp [thB]
theorem Clb.done {us ds : List Nat} (h : Clb 6 us ds) (b : Bool) (hb : b = true → 2 * us.length < 12) :
    ∃ T, ClOk T us ds b ∧ thB T = us.map (97 + ·) ++ (if b = true then [46] else []) ++ ds.map (65 + ·) ∧ T.length = 2 * us.length + (if b = true then 1 else 0) := by
  have hl : ((us.map Ins.take ++ dotL b) ++ ds.map Ins.give).length = 2 * us.length + (if b = true then 1 else 0) := by
    have := h.dl
    cases b <;> simp [dotL] <;> omega
  refine ⟨_, ⟨rfl, h.up, h.lt, h.nd, h.mem, ?_⟩, ?_, hl⟩
  · rw [hl]
    have := h.ul
    cases b
    · simp; omega
    · have := hb rfl
      simp; omega
  · rw [thB_app, thB_app, thB_takes, thB_gives]
    cases b <;> simp [dotL, thB, Ins.bs]
def chS (c : Nat) : ByteArray := bt [c]
theorem chS_size (c : Nat) : (chS c).size = 1 := rfl
theorem conv_ch (w : World) (a : Int) (b k : Nat) (h0 : a = b) : (convert 47 9 (.slice (some ⟨w.heap.size, 0, none⟩) 1 1)).run Tryd.prog (w.alloc (.cells #[.int .u8 (a + (k : Int))] 5)) = .ok (.string (chS (b + k))) (w.alloc (.cells #[.int .u8 (a + (k : Int))] 5)) := by
  have h := conv1 w (a + (k : Int))
  rw [show (a + (k : Int)).toNat = b + k by omega] at h
  exact h
theorem upS_snoc (us : List Nat) (k : Nat) : upS us ++ chS (97 + k) = upS (us ++ [k]) := by
  rw [upS, chS, bt_append, upS, List.map_append]; rfl
theorem dnS_snoc (ds : List Nat) (k : Nat) : dnS ds ++ chS (65 + k) = dnS (ds ++ [k]) := by
  rw [dnS, chS, bt_append, dnS, List.map_append]; rfl
theorem dnS_cons (ds : List Nat) (k : Nat) : chS (65 + k) ++ dnS ds = dnS (k :: ds) := by
  rw [dnS, chS, bt_append, dnS, List.map_cons]; rfl
theorem upS_size (us : List Nat) : (upS us).size = us.length := by rw [upS, bt_size, List.length_map]
theorem dnS_size (us : List Nat) : (dnS us).size = us.length := by rw [dnS, bt_size, List.length_map]

def ClOut (e : Ending) : Prop := ∃ T us ds b, ClOk T us ds b ∧ e = .returned (.tuple #[.string (bt (thB T)), .int .i64 (T.length : Int)])
theorem clOut_no {m : Nat} {us ds : List Nat} (h : Clb 6 us ds) (hm : us.length = m) : ClOut (.returned (.tuple #[.string (upS us ++ dnS ds), .int .i64 (2 * (m : Int))])) := by
  obtain ⟨T, h1, h2, h3⟩ := h.done false (fun e => by cases e)
  refine ⟨T, us, ds, false, h1, ?_⟩
  have e : upS us ++ dnS ds = bt (thB T) := by
    rw [h2, upS, dnS, bt_append]; simp
  have e2 : (T.length : Int) = 2 * (m : Int) := by rw [h3]; simp; omega
  rw [e, e2]
theorem clOut_yes {m : Nat} {us ds : List Nat} (h : Clb 6 us ds) (hm : us.length = m) (hm6 : m < 6) : ClOut (.returned (.tuple #[.string (upS us ++ ⟨#[46]⟩ ++ dnS ds), .int .i64 (2 * (m : Int) + 1)])) := by
  obtain ⟨T, h1, h2, h3⟩ := h.done true (fun _ => by omega)
  refine ⟨T, us, ds, true, h1, ?_⟩
  have e : upS us ++ ⟨#[46]⟩ ++ dnS ds = bt (thB T) := by
    rw [h2, ← bt_append, ← bt_append]; rfl
  have e2 : (T.length : Int) = 2 * (m : Int) + 1 := by rw [h3]; simp; omega
  rw [e, e2]

set_option maxRecDepth 100000 in
set_option maxHeartbeats 1000000 in
theorem climbing_any (c : Int) (hc0 : -9223372036854775808 ≤ c) (hc1 : c ≤ 9223372036854775807) (w : World) :
    Calls Tryd.prog 13 #[.int .i64 c] w fun e w' => ClOut e ∧ Below w.heap.size w w' := by
  have hP : ∀ w, Calls Tryd.prog 6 #[.int .i64 c, .int .i64 8192] w fun e w' => (∃ r : Nat, r < 8192 ∧ e = .returned (.int .i64 (r : Int))) ∧ w' = w := fun w => pickN_any c hc0 hc1 8192 (by decide) (by decide) w
  clear hc0 hc1
  go_enter Tryd.func13, Tryd.ntmps13
  go_wp2_with (first | (go_at_call 6; refine (hP _).mono ?_; rintro e w1 ⟨⟨r, hr, rfl⟩, hw⟩; have hw2 := hw.symm; clear hw; subst hw2))
  go_loopw [4, 5, 6, 7] (fun x y z v wr => ∃ (k m : Nat) (us ds : List Nat), k ≤ 6 ∧ m ≤ 6 ∧ Hid (Clb k us ds ∧ us.length = m) ∧ x = .string (upS us) ∧ y = .string (dnS ds) ∧ z = .int .i64 (2 * (m : Int)) ∧ v = .int .i64 (k : Int) ∧ Below w.heap.size w wr) (fun _ _ _ v _ => 6 - (intOf v).toNat)
  case atStart => exact ⟨0, 0, [], [], by omega, by omega, ⟨⟨List.Pairwise.nil, (fun x hx => by cases hx), List.Pairwise.nil, (fun x => Iff.rfl), Nat.le_refl _, rfl⟩, rfl⟩, rfl, rfl, rfl, rfl, Below.refl _ _⟩
  case round =>
    obtain ⟨k, m, us, ds, hk, hm, HC, rfl, rfl, rfl, rfl, hB⟩ := hrel
    by_cases hk6 : k < 6
    · have k6 : (k : Int) < 6 := by omega
      have k0 : (0 : Int) ≤ (k : Int) := by omega
      by_cases hb : bits BinOp.and IntKind.i64 ((r : Int) / 2 ^ k) 1 = 1
      · have c1 := conv_ch wr 97 97 k rfl
        have c2 := conv_ch (wr.alloc (.cells #[.int .u8 (97 + (k : Int))] 5)) 65 65 k rfl
        rw [show (wr.alloc (.cells #[.int .u8 (97 + (k : Int))] 5)).heap.size = wr.heap.size + 1 by simp] at c2
        have s1 := chS_size (97 + k)
        have s2 := chS_size (65 + k)
        have su : (upS us).size = m := by rw [upS_size]; exact HC.out.2
        have sd : (dnS ds).size = m := by rw [dnS_size, HC.out.1.dl]; exact HC.out.2
        have hm5 : m ≤ 5 := by have := HC.out.1.ul; have := HC.out.2; omega
        have hB1 := hB.alloc hB.size (.cells #[.int .u8 (97 + (k : Int))] 5)
        have hB2 := hB1.alloc hB1.size (.cells #[.int .u8 (65 + (k : Int))] 5)
        have u1 := upS_snoc us k
        have d1 := dnS_snoc ds k
        have d2 := dnS_cons ds k
        by_cases hb2 : bits BinOp.and IntKind.i64 ((r : Int) / 2 ^ (k + 6)) 1 = 1
        · go_wp2
          go_roundw
          case rel => exact ⟨k + 1, m + 1, us ++ [k], ds ++ [k], by omega, by omega, ⟨HC.out.1.last, by have := HC.out.2; simp; omega⟩, rfl, rfl, by go_num, by go_num, hB2⟩
          case measure => (simp [intOf] <;> omega)
        · have hb2n : (bits BinOp.and IntKind.i64 ((r : Int) / 2 ^ (k + 6)) 1 == 1) = false := beq_false_of_ne hb2
          go_wp2
          go_roundw
          case rel => exact ⟨k + 1, m + 1, us ++ [k], k :: ds, by omega, by omega, ⟨HC.out.1.head, by have := HC.out.2; simp; omega⟩, rfl, rfl, by go_num, by go_num, hB2⟩
          case measure => (simp [intOf] <;> omega)
      · have hbn : (bits BinOp.and IntKind.i64 ((r : Int) / 2 ^ k) 1 == 1) = false := beq_false_of_ne hb
        go_wp2
        go_roundw
        case rel => exact ⟨k + 1, m, us, ds, by omega, hm, ⟨HC.out.1.skip, HC.out.2⟩, rfl, rfl, rfl, by go_num, hB⟩
        case measure => (simp [intOf] <;> omega)
    · have hke : k = 6 := by omega
      subst hke
      have su : (upS us).size = m := by rw [upS_size]; exact HC.out.2
      have sd : (dnS ds).size = m := by rw [dnS_size, HC.out.1.dl]; exact HC.out.2
      by_cases hm6 : m < 6
      · have m12 : 2 * (m : Int) < 12 := by omega
        by_cases hd : (r : Int) / 4096 = 1
        · go_wp2
          go_ret2
          exact ⟨clOut_yes HC.out.1 HC.out.2 hm6, hB⟩
        · have hdn : ((r : Int) / 4096 == 1) = false := beq_false_of_ne hd
          go_wp2
          go_ret2
          exact ⟨clOut_no HC.out.1 HC.out.2, hB⟩
      · have m12 : ¬ 2 * (m : Int) < 12 := by omega
        go_wp2
        go_ret2
        exact ⟨clOut_no HC.out.1 HC.out.2, hB⟩
end Go.Proofs.YtdfndcbakcmgiabDoor
namespace Go.Proofs.YtdfndcbakcmgiabDoor
open Go.RowKit

def strs (m : Nat) : List Ins := (List.range m).map fun u => .start (u + 1)
def stS (m : Nat) : ByteArray := bt (thB (strs m))
def bdL (R : List (List Ins)) : List Nat := R.flatMap fun T => 59 :: thB T
def bdS (R : List (List Ins)) : ByteArray := bt (bdL R)
theorem txL_cons : ∀ (R : List (List Ins)) (T : List Ins), txL (T :: R) = thB T ++ bdL R
  | [], T => by simp [txL, bdL]
  | U :: R, T => by
    show thB T ++ 59 :: txL (U :: R) = _
    rw [txL_cons R U]; simp [bdL]
theorem stS_bdS (m : Nat) (R : List (List Ins)) : stS m ++ bdS R = bt (txL (strs m :: R)) := by rw [txL_cons, stS, bdS, bt_append]
theorem strs_succ (m : Nat) : strs (m + 1) = strs m ++ [.start (m + 1)] := by simp [strs, List.range_succ]
theorem stS_succ (m : Nat) : stS m ++ ⟨#[62]⟩ ++ nameS (m + 1) = stS (m + 1) := by
  have e : (⟨#[62]⟩ : ByteArray) = bt [62] := rfl
  have e2 : nameS (m + 1) = bt [48 + (m + 1)] := rfl
  rw [stS, e, e2, bt_append, bt_append, stS, strs_succ, thB_app, List.append_assoc]; rfl
theorem stS_size (m : Nat) : (stS m).size = 2 * m := by
  rw [stS, bt_size]
  induction m with
  | zero => rfl
  | succ m ih => rw [strs_succ, thB_app, List.length_append, ih]; simp [thB, Ins.bs]; omega
theorem bdS_succ (R : List (List Ins)) (T : List Ins) : bdS R ++ ⟨#[59]⟩ ++ bt (thB T) = bdS (R ++ [T]) := by
  have e : (⟨#[59]⟩ : ByteArray) = bt [59] := rfl
  rw [bdS, e, bt_append, bt_append, bdS]
  congr 1
  simp [bdL]
theorem ClOk.bytes {T : List Ins} {us ds : List Nat} {b : Bool} (h : ClOk T us ds b) : (thB T).length ≤ 24 := by
  have := thB_len T
  have := h.len
  omega
def ClR (m : Nat) (R : List (List Ins)) : Prop := R.length = m ∧ ∀ T ∈ R, ∃ us ds b, ClOk T us ds b
def mvs (R : List (List Ins)) : Nat := (R.map fun T => T.length + 1).sum
theorem bdS_size {m : Nat} {R : List (List Ins)} (h : ClR m R) : (bdS R).size ≤ 25 * m := by
  obtain ⟨h1, h2⟩ := h
  rw [bdS, bt_size]
  subst h1
  induction R with
  | nil => simp [bdL]
  | cons T R ih =>
    obtain ⟨us, ds, b, hT⟩ := h2 T (List.mem_cons_self ..)
    have h3 := ih (fun U hU => h2 U (List.mem_cons_of_mem _ hU))
    have h4 := hT.bytes
    have e : bdL (T :: R) = 59 :: thB T ++ bdL R := by simp [bdL]
    rw [e, List.length_append, List.length_cons, List.length_cons]
    omega
theorem ClR.snoc {m : Nat} {R : List (List Ins)} (h : ClR m R) {T : List Ins} {us ds : List Nat} {b : Bool} (hT : ClOk T us ds b) : ClR (m + 1) (R ++ [T]) := by
  refine ⟨by rw [List.length_append, h.1]; rfl, fun U hU => ?_⟩
  rcases List.mem_append.1 hU with hU | hU
  · exact h.2 U hU
  · rw [List.mem_singleton.1 hU]; exact ⟨us, ds, b, hT⟩
theorem mvs_snoc (R : List (List Ins)) (T : List Ins) : mvs (R ++ [T]) = mvs R + T.length + 1 := by simp [mvs]; omega
theorem mvs_sum {m : Nat} {R : List (List Ins)} (h : ClR m R) : ((strs m :: R).map List.length).sum = mvs R := by
  have h1 := h.1
  clear h
  have e : (strs m).length = m := by simp [strs]
  rw [List.map_cons, List.sum_cons, e, ← h1, mvs]
  clear e h1
  induction R with
  | nil => rfl
  | cons T R ih => simp only [List.map_cons, List.sum_cons, List.length_cons] at ih ⊢; omega
theorem mvs_le {m : Nat} {R : List (List Ins)} (h : ClR m R) : mvs R ≤ 13 * m := by
  obtain ⟨h1, h2⟩ := h
  subst h1
  induction R with
  | nil => simp [mvs]
  | cons T R ih =>
    obtain ⟨us, ds, b, hT⟩ := h2 T (List.mem_cons_self ..)
    have h3 := ih (fun U hU => h2 U (List.mem_cons_of_mem _ hU))
    have h4 := hT.len
    simp only [mvs, List.map_cons, List.sum_cons, List.length_cons] at h3 ⊢
    omega
theorem ClR.clm {m : Nat} {R : List (List Ins)} (h : ClR m R) (hm : m ≤ 4) : ClmP (strs m :: R) where
  pos := by simp
  n5 := by have := h.1; simp; omega
  t0 := by
    have e : (strs m :: R).length - 1 = m := by have := h.1; simp; omega
    rw [e]; rfl
  tr := fun t h0 ht => by
    obtain ⟨t, rfl⟩ : ∃ u, t = u + 1 := ⟨t - 1, by omega⟩
    have ht' : t < R.length := by simpa using ht
    have e : th (strs m :: R) (t + 1) = R[t] := by simp [th, ht']
    rw [e]
    exact h.2 _ (List.getElem_mem ht')

/-- What a search answers where there is no ring. -/
theorem search_no (s : ByteArray) (h0 : (ckP s).1 = 0) (hno : ∀ m U, goL (beginW (thLoop s 0 0 [])) m = some U → ringW U = false) :
    ∃ f : Int, (f = 2 ∨ f = 3) ∧ ∀ w, Calls Tryd.prog 11 #[.string s, .int .i64 400] w fun e w' => e = .returned (.tuple #[.string ⟨#[]⟩, .int .i64 f, .int .i64 0]) ∧ Below w.heap.size w w' := by
  have hSe := fun w => Search_any s 400 w
  rw [seaV_in s h0] at hSe
  have hSp := sea_spec s h0
  generalize seaR s 400 = r at *
  obtain ⟨l, f⟩ := r
  cases hSp with
  | found V _ hgo hrg _ _ =>
    rw [hno _ V hgo] at hrg; cases hrg
  | none e1 e2 _ =>
    simp only at e1 e2 hSe
    subst e1 e2
    exact ⟨2, .inl rfl, hSe⟩
  | short Q e1 e2 _ _ _ =>
    simp only at e1 e2 hSe
    subst e1 e2
    exact ⟨3, .inr rfl, hSe⟩
/-- A run, and what is told of it. -/
theorem run_told (s picks : ByteArray) (h0 : (ckP s).1 = 0) : ∃ ms h WE, RunsTo picks (beginW (thLoop s 0 0 [])) 0 ms h WE ∧ ms.length ≤ 60 ∧ (∀ t ∈ ms, t < 5) ∧
    (∀ w, Calls Tryd.prog 8 #[.string s, .string picks] w fun e w' => e = .returned (.tuple #[.string (digS ms), .int .i64 h, .int .i64 0]) ∧ Below w.heap.size w w') ∧
    (∀ w, Calls Tryd.prog 10 #[.string s, .string (digS ms), .int .i64 100] w fun e w' => ∃ v us, e = .returned (.tuple #[v, .bool (findS (aqsW WE) 100).2, .int .i64 0]) ∧ Below w.heap.size w w' ∧ v.ownBlock ≠ none ∧ RepsIn w' w.heap.size v ((findS (aqsW WE) 100).1.map (rpOf WE.log (aqsW WE))) us) := by
  have I0 := begin_inv s h0
  obtain ⟨ms, hend, WE, hr⟩ := runs_ex picks _ (beginW (thLoop s 0 0 [])) 0 I0 rfl
  have hto0 : toLoop ⟨#[]⟩ (beginW (thLoop s 0 0 [])) 0 = some (beginW (thLoop s 0 0 [])) := by rw [toLoop, if_neg (by simp [ByteArray.size])]
  have hg := hr.goes
  obtain ⟨hlen, hms5⟩ := goL_60 I0 hg
  have hV : resumeV s ⟨#[]⟩ picks = .tuple #[.string (digS ms), .int .i64 hend, .int .i64 0] := by
    rw [resumeV, if_neg (by rw [h0]; decide), hto0]
    simp only [hr.resumeL 61 [] rfl (by omega), List.nil_append]
  have hRun := fun w => run_any s picks w
  rw [hV] at hRun
  have hto : toLoop (digS ms) (beginW (thLoop s 0 0 [])) 0 = some WE := by
    rw [toLoop_dig _ I0 _ (fun t ht => by have := hms5 t ht; omega)]; exact hg
  have hszk : (digS ms).size ≤ maxLen := by rw [digS_size]; unfold maxLen; omega
  exact ⟨ms, hend, WE, hr, hlen, hms5, hRun, fun w => predict_ok s (digS ms) hszk 100 (Nat.le_refl _) w h0 WE hto⟩

set_option maxRecDepth 100000 in
set_option maxHeartbeats 1000000 in
theorem Climbing_walk (a : Option Addr) (c : Nat) (raw : List Int) (n : Nat) (hn : n = raw.length) (hi : ∀ x ∈ raw, -9223372036854775808 ≤ x ∧ x ≤ 9223372036854775807) (picks : ByteArray) (w : World) (hA : IntsAt w a raw) :
    Calls Tryd.prog 4 #[.slice a n c, .string picks] w fun e w' => e = .returned (.bool true) ∧ Below w.heap.size w w' := by
  subst hn
  have HI := show Hid _ from hi
  have HA := show Hid _ from hA
  clear hi hA
  go_enter Tryd.func4, Tryd.ntmps4
  go_wp2
  go_loopw [5, 6, 7, 8] (fun x y z v wr => ∃ (m q : Nat) (R : List (List Ins)), m ≤ 4 ∧ m ≤ raw.length ∧ q ≤ 100 ∧ Hid (ClR m R ∧ mvs R = q) ∧ x = .string (stS m) ∧ y = .string (bdS R) ∧ z = .int .i64 (q : Int) ∧ v = .int .i64 ((m : Int) + 1) ∧ Below w.heap.size w wr) (fun _ _ _ v _ => 6 - (intOf v).toNat)
  case atStart => exact ⟨0, 0, [], by omega, by omega, by omega, ⟨⟨rfl, fun T hT => by cases hT⟩, rfl⟩, rfl, rfl, rfl, rfl, Below.refl _ _⟩
  case round =>
    obtain ⟨m, q, R, hm4, hml, hq, HC, rfl, rfl, rfl, rfl, hB⟩ := hrel
    have sS := stS_size m
    obtain ⟨z, hz⟩ : ∃ z, (bdS R).size = z := ⟨_, rfl⟩
    have hz100 : z ≤ 100 := by have := bdS_size HC.out.1; omega
    by_cases hgo : m < 4 ∧ m < raw.length
    · obtain ⟨hm4', hml'⟩ := hgo
      have m1 : (m : Int) + 1 ≤ 4 := by omega
      have m2 : (m : Int) + 1 ≤ (raw.length : Int) := by omega
      obtain ⟨x, hx⟩ := get_some raw m hml'
      obtain ⟨g, o, e1, c1⟩ := HA.out m x hx
      subst e1
      have c1' := cell_later hB c1
      obtain ⟨hx0, hx1⟩ := HI.out x (List.mem_of_getElem? hx)
      have hCl := fun w => climbing_any x hx0 hx1 w
      have hDg : ∀ w, Calls Tryd.prog 14 #[.int .i64 ((m : Int) + 1)] w fun e w' => e = .returned (.string (nameS (m + 1))) ∧ Below w.heap.size w w' := fun w => by
        have h := digit_any (m + 1) w (by omega)
        rwa [show ((m + 1 : Nat) : Int) = (m : Int) + 1 by omega] at h
      have ns := nameS_size (m + 1)
      have st1 := stS_succ m
      have i0 : (0 : Int) ≤ (m : Int) := by omega
      have il : (m : Int) < (raw.length : Int) := by omega
      clear hx hx0 hx1 c1
      go_upto_region 8 with (first
        | (go_at_call 13; refine (hCl _).mono ?_; rintro e w1 ⟨⟨T, us, ds, b, hT, rfl⟩, hb1⟩))
      have hb2 := bdS_succ R T
      have sT : (bt (thB T)).size ≤ 24 := by rw [bt_size]; exact hT.bytes
      obtain ⟨y, hy⟩ : ∃ y, (bt (thB T)).size = y := ⟨_, rfl⟩
      have hy24 : y ≤ 24 := by omega
      have hT12 := hT.len
      have HN : Hid (ClR (m + 1) (R ++ [T]) ∧ mvs (R ++ [T]) = q + T.length + 1) := ⟨HC.out.1.snoc hT, by rw [mvs_snoc, HC.out.2]⟩
      have hq2 : q + T.length + 1 ≤ 13 * (m + 1) := by rw [← HN.out.2]; exact mvs_le HN.out.1
      generalize hB2e : bdS (R ++ [T]) = B2 at *
      have HB2 : Hid (bdS (R ++ [T]) = B2) := hB2e
      clear hB2e
      generalize T.length = tl at *
      generalize bt (thB T) = sTT at *
      go_wp2_with (first
        | (go_at_call 14; refine (hDg _).mono ?_; rintro e w2 ⟨rfl, hb2'⟩))
      go_roundw
      case rel =>
        have hb12 := hb1.trans (hb2'.mono hb1.size)
        exact ⟨m + 1, q + tl + 1, R ++ [T], by omega, by omega, by omega, HN, rfl, by rw [HB2.out], by go_num, by go_num, hB.trans (hb12.mono hB.size)⟩
      case measure => (simp [intOf] <;> omega)
    · have hs := stS_bdS m R
      have C := HC.out.1.clm hm4
      have hmv := mvs_sum HC.out.1
      rw [HC.out.2] at hmv
      obtain ⟨h0, hp⟩ := C.parse
      generalize bt (txL (strs m :: R)) = s at *
      have I0 := begin_inv s h0
      obtain ⟨ms, hh, WE, hr, hl60, hms5, hRun, hPr⟩ := run_told s picks h0
      obtain ⟨rfl, hml2⟩ := clp_run C I0 hp hr
      have hfi := clp_find C I0 hp hr.goes
      obtain ⟨f, hf, hSe⟩ := search_no s h0 (fun l U hg => clp_ring C I0 hp hg)
      rw [hfi] at hPr
      have hsd : (digS ms).size = q := by rw [digS_size, hml2, hmv]
      clear hfi hml2 hmv C hp I0 hr h0
      generalize digS ms = dm at *
      have hPr2 : ∀ w, Calls Tryd.prog 10 #[.string s, .string dm, .int .i64 100] w fun e w' => ∃ g cv, e = .returned (.tuple #[.slice (some ⟨g, 0, none⟩) 0 cv, .bool false, .int .i64 0]) ∧ Below w.heap.size w w' := fun w => (hPr w).mono (by
        rintro e w1 ⟨v, us, rfl, hb, hvn, hR⟩
        obtain ⟨gv, cv, hv2⟩ := row_form (hR.fam.own (List.mem_cons_self ..)) hvn
        have hv3 : v = .slice (some ⟨gv, 0, none⟩) 0 cv := hv2
        subst hv3
        exact ⟨gv, cv, rfl, hb⟩)
      clear hPr
      have hnot : ¬ ((m : Int) + 1 ≤ 4 ∧ (m : Int) + 1 ≤ (raw.length : Int)) := by omega
      by_cases hm3 : m < 4
      · have m1 : (m : Int) + 1 ≤ 4 := by omega
        have m2 : ¬ (m : Int) + 1 ≤ (raw.length : Int) := by omega
        rcases hf with rfl | rfl
        · go_wp2_with (first
            | (go_at_call 8; refine (hRun _).mono ?_; rintro e w1 ⟨rfl, hb1⟩)
            | (go_at_call 10; refine (hPr2 _).mono ?_; rintro e w2 ⟨gv, cv, rfl, hb2⟩)
            | (go_at_call 11; refine (hSe _).mono ?_; rintro e w3 ⟨rfl, hb3⟩))
          go_ret
          have hB1 := hB.trans (hb1.mono hB.size)
          have hB2 := hB1.trans (hb2.mono hB1.size)
          exact ⟨rfl, hB2.trans (hb3.mono hB2.size)⟩
        · go_wp2_with (first
            | (go_at_call 8; refine (hRun _).mono ?_; rintro e w1 ⟨rfl, hb1⟩)
            | (go_at_call 10; refine (hPr2 _).mono ?_; rintro e w2 ⟨gv, cv, rfl, hb2⟩)
            | (go_at_call 11; refine (hSe _).mono ?_; rintro e w3 ⟨rfl, hb3⟩))
          go_ret
          have hB1 := hB.trans (hb1.mono hB.size)
          have hB2 := hB1.trans (hb2.mono hB1.size)
          exact ⟨rfl, hB2.trans (hb3.mono hB2.size)⟩
      · have m1 : ¬ (m : Int) + 1 ≤ 4 := by omega
        rcases hf with rfl | rfl
        · go_wp2_with (first
            | (go_at_call 8; refine (hRun _).mono ?_; rintro e w1 ⟨rfl, hb1⟩)
            | (go_at_call 10; refine (hPr2 _).mono ?_; rintro e w2 ⟨gv, cv, rfl, hb2⟩)
            | (go_at_call 11; refine (hSe _).mono ?_; rintro e w3 ⟨rfl, hb3⟩))
          go_ret
          have hB1 := hB.trans (hb1.mono hB.size)
          have hB2 := hB1.trans (hb2.mono hB1.size)
          exact ⟨rfl, hB2.trans (hb3.mono hB2.size)⟩
        · go_wp2_with (first
            | (go_at_call 8; refine (hRun _).mono ?_; rintro e w1 ⟨rfl, hb1⟩)
            | (go_at_call 10; refine (hPr2 _).mono ?_; rintro e w2 ⟨gv, cv, rfl, hb2⟩)
            | (go_at_call 11; refine (hSe _).mono ?_; rintro e w3 ⟨rfl, hb3⟩))
          go_ret
          have hB1 := hB.trans (hb1.mono hB.size)
          have hB2 := hB1.trans (hb2.mono hB1.size)
          exact ⟨rfl, hB2.trans (hb3.mono hB2.size)⟩
end Go.Proofs.YtdfndcbakcmgiabDoor
