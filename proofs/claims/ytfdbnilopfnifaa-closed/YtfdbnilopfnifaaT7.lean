import Derived.Test.YtfdbnilopfnifaaT4
import Derived.Laws.StructEq
import Derived.ChangeKeysEq
namespace Go.Proofs.Ytfdbnilopfnifaa
open Go.RowKit

/-! Two sets compared. -/
def eqQ (x y : Value) : Sem Value := binOp .eql 145 x y
theorem eqQ_fold (x y : Value) : binOp .eql 145 x y = eqQ x y := rfl
theorem infoBool' : ∃ i, Try.prog.info? 4 = some i ∧ i.size = 1 := by
  obtain ⟨i, h1, _, h2, _⟩ := info_split infoBool
  exact ⟨i, h1, h2⟩
theorem part_bool (w : World) (m : List Bool) (j : Nat) (b : Bool) (h : m[j]? = some b) : (part 4 (setC m) (j * 1)).run Try.prog w = .ok (.bool b) w := by
  have h1 := setC_get h
  have hagg : (isAgg 4).run Try.prog w = .ok false w := by
    unfold isAgg
    rw [Sem.run_bind, run_underlying Try.underlying4 w]
    rfl
  simp [part, Sem.run_bind, hagg, h1]
theorem eqItems_bools (d : Nat) (w : World) (a b : List Bool) : ∀ (is : List Nat), (∀ i ∈ is, i < a.length ∧ i < b.length) →
    ∃ r : Bool, (Op.eqItems (d + 1) 4 1 (setC a) (setC b) is).run Try.prog w = .ok r w ∧ (r = true ↔ ∀ i ∈ is, a[i]? = b[i]?)
  | [], _ => ⟨true, by simp [Op.eqItems], by simp⟩
  | i :: is, h => by
    obtain ⟨h1, h2⟩ := h i (List.mem_cons_self ..)
    obtain ⟨r, hr, hiff⟩ := eqItems_bools d w a b is (fun x hx => h x (List.mem_cons_of_mem _ hx))
    have p1 := part_bool w a i a[i] (by simp [h1])
    have p2 := part_bool w b i b[i] (by simp [h2])
    have p3 := run_equalIn_bool' (P := Try.prog) w d 4 a[i] b[i] Try.underlying4
    simp only [Op.eqItems, Sem.run_bind, p1, p2, p3, Result.andThen_ok]
    by_cases he : a[i] = b[i]
    · refine ⟨r, by simpa [he] using hr, ?_⟩
      rw [hiff]
      simp [h1, h2, he]
    · refine ⟨false, by simp [he], ?_⟩
      simp [h1, h2, he]
theorem eqQ_run (w : World) (a b : List Bool) (ha : a.length = 60) (hb : b.length = 60) : ∃ r : Bool, (eqQ (.agg (setC a)) (.agg (setC b))).run Try.prog w = .ok (.bool r) w ∧ (r = true ↔ a = b) := by
  obtain ⟨i, hi, hs⟩ := infoBool'
  have hc : Try.prog.cellsOf 4 = 1 := by rw [Program.cellsOf, hi]; simp [hs]
  obtain ⟨r, hr, hiff⟩ := eqItems_bools 9998 w a b (List.range 60) (fun x hx => by have := List.mem_range.1 hx; omega)
  have hE := run_equalIn_array (P := Try.prog) w 9999 (setC a) (setC b) Try.underlying145 hi
  rw [hc, hr] at hE
  refine ⟨r, ?_, hiff.trans ⟨fun h => ?_, fun h i _ => by rw [h]⟩⟩
  · rw [eqQ, run_eql_struct, hE]; rfl
  · apply List.ext_getElem?
    intro x
    by_cases hx : x < 60
    · exact h x (List.mem_range.2 hx)
    · rw [List.getElem?_eq_none (by omega), List.getElem?_eq_none (by omega)]
theorem guardQ : Try.prog.eqGuardType Try.prog.depth 145 = false := by kernel_rfl
theorem guardS : Try.prog.eqGuardType Try.prog.depth 140 = false := by kernel_rfl

/-! Two steps compared. -/
def eqStp (x y : Value) : Sem Value := binOp .eql 140 x y
def neStp (x y : Value) : Sem Value := binOp .neq 140 x y
theorem eqStp_fold (x y : Value) : binOp .eql 140 x y = eqStp x y := rfl
theorem neStp_fold (x y : Value) : binOp .neq 140 x y = neStp x y := rfl
def Stp.agg (x : Stp) : Value := .agg #[.int .i64 x.kind, .int .i64 x.which, .int .i64 x.count]
theorem stoodS : Try.prog.stoodInHeld 140 = false := by kernel_rfl
theorem fieldsS : Try.prog.underlying 140 = some (.struct (Try.prog.fieldsOf 140)) := by
  rw [Program.fieldsOf, Try.underlying140]
theorem part_int (w : World) (cs : Array Value) (j : Nat) (v : Value) (h : cs[j]? = some v) : (part 3 cs j).run Try.prog w = .ok v w := by
  have hagg : (isAgg 3).run Try.prog w = .ok false w := by
    unfold isAgg
    rw [Sem.run_bind, run_underlying Try.underlying3 w]
    rfl
  simp [part, Sem.run_bind, hagg, h]
theorem stp_eq (w : World) (a b a' b' a'' b'' : Int) : (Op.equalIn 10000 140 (.agg #[.int .i64 a, .int .i64 a', .int .i64 a'']) (.agg #[.int .i64 b, .int .i64 b', .int .i64 b''])).run Try.prog w = .ok (decide (a = b ∧ a' = b' ∧ a'' = b'')) w := by
  rw [run_equalIn_struct w 9999 _ _ _ fieldsS stoodS]
  rw [Program.fieldsOf, Try.underlying140]
  have e : ∀ x y : Int, (Op.equalIn 9999 3 (.int .i64 x) (.int .i64 y)).run Try.prog w = .ok (x == y) w := fun x y => run_equalIn_int (P := Try.prog) w 9998 3 .i64 .i64 x y Try.underlying3
  have p0 : ∀ x y z : Int, (part 3 #[.int .i64 x, .int .i64 y, .int .i64 z] 0).run Try.prog w = .ok (.int .i64 x) w := fun x y z => part_int w _ 0 _ rfl
  have p1 : ∀ x y z : Int, (part 3 #[.int .i64 x, .int .i64 y, .int .i64 z] 1).run Try.prog w = .ok (.int .i64 y) w := fun x y z => part_int w _ 1 _ rfl
  have p2 : ∀ x y z : Int, (part 3 #[.int .i64 x, .int .i64 y, .int .i64 z] 2).run Try.prog w = .ok (.int .i64 z) w := fun x y z => part_int w _ 2 _ rfl
  have n1 : "Kind" ≠ "_" := by decide
  have n2 : "Which" ≠ "_" := by decide
  have n3 : "Count" ≠ "_" := by decide
  simp only [Op.eqFields, if_pos n1, if_pos n2, if_pos n3, Sem.run_bind, Result.andThen_ok, p0, e]
  by_cases h0 : a = b
  · by_cases h1 : a' = b'
    · by_cases h2 : a'' = b''
      · simp [h0, h1, h2, p1, p2, e]
      · simp [h0, h1, h2, p1, p2, e]
    · simp [h0, h1, p1, e]
  · simp [h0]
theorem eqStp_run (w : World) (a b a' b' a'' b'' : Int) : (eqStp (.agg #[.int .i64 a, .int .i64 a', .int .i64 a'']) (.agg #[.int .i64 b, .int .i64 b', .int .i64 b''])).run Try.prog w = .ok (.bool (decide (a = b ∧ a' = b' ∧ a'' = b''))) w := by
  rw [eqStp, run_eql_struct, stp_eq]; rfl
theorem neStp_run (w : World) (a b a' b' a'' b'' : Int) : (neStp (.agg #[.int .i64 a, .int .i64 a', .int .i64 a'']) (.agg #[.int .i64 b, .int .i64 b', .int .i64 b''])).run Try.prog w = .ok (.bool (!decide (a = b ∧ a' = b' ∧ a'' = b''))) w := by
  rw [neStp, run_neq_struct, stp_eq]; rfl

/-! The events that some events need. -/
theorem MvsAt.get {w : World} {g : Nat} {l : List Mv} (h : MvsAt w g l) {j : Nat} {a : Mv} (ha : l[j]? = some a) :
    w.cell? ⟨g, j * 6, none⟩ = some (.int .i64 a.th) ∧ w.cell? ⟨g, j * 6 + 2, none⟩ = some (.int .i64 a.x.kind) ∧ w.cell? ⟨g, j * 6 + 3, none⟩ = some (.int .i64 a.x.which) ∧ w.cell? ⟨g, j * 6 + 4, none⟩ = some (.int .i64 a.x.count) :=
  ⟨h j a ha 0 _ rfl, h j a ha 2 _ rfl, h j a ha 3 _ rfl, h j a ha 4 _ rfl⟩
/-- Does a move set or clear the flag? -/
def chB (a : Mv) (u : Int) : Bool := decide ((a.x.kind = 3 ∨ a.x.kind = 4) ∧ a.x.which = u)
def flgP (l : List Mv) (u : Int) : Nat → Int
  | 0 => -1
  | c + 1 => if (l[c]?.map fun a => chB a u).getD false = true then c else flgP l u c
def addI (m : List Bool) (i : Int) : List Bool := if 0 ≤ i then m.set i.toNat true else m
theorem flgP_lt (l : List Mv) (u : Int) : ∀ c, flgP l u c = -1 ∨ ∃ i : Nat, flgP l u c = i ∧ i < c
  | 0 => .inl rfl
  | c + 1 => by
    rw [flgP]
    split
    · exact .inr ⟨c, rfl, by omega⟩
    · rcases flgP_lt l u c with h | ⟨i, h, hi⟩
      · exact .inl h
      · exact .inr ⟨i, h, by omega⟩
/-- The set with the event that made the flag what event j sees. -/
def addF (l : List Mv) (b : Mv) (j : Nat) (m : List Bool) : List Bool := if b.x.kind = 5 then addI m (flgP l b.x.which j) else m

attribute [local go_sem ↓] loadQ_fold storeQ_fold zeroQ_fold loadV_fold eqQ_fold eqStp_fold neStp_fold

set_option maxRecDepth 100000 in
set_option maxHeartbeats 2000000 in
theorem addFlagChange_any (g c : Nat) (Wn : Value) (l : List Mv) (m : List Bool) (hm : m.length = 60) (w : World) (hE : MvsAt w g l) (j : Nat) (b : Mv) (hb : l[j]? = some b) (hl : l.length ≤ 60) (y : Int) (hy : y = j) :
    Calls Try.prog 126 #[.agg #[.slice (some ⟨g, 0, none⟩) l.length c, Wn], .agg (setC m), .int .i64 y] w fun e w' => e = .returned (.agg (setC (addF l b j m))) ∧ Below w.heap.size w w' := by
  subst hy
  have hj : j < l.length := (List.getElem?_eq_some_iff.1 hb).1
  have s1 : SetIn (((w.alloc (.cells #[.slice (some ⟨g, 0, none⟩) l.length c, Wn] 104)).alloc (.cells (setC m) 145)).alloc (.cells (setC zeroM60) 145)) (w.heap.size + 1) m := SetIn.old ⟨heap_alloc2_new _ _ _, hm⟩ _
  have s2 : SetIn (((w.alloc (.cells #[.slice (some ⟨g, 0, none⟩) l.length c, Wn] 104)).alloc (.cells (setC m) 145)).alloc (.cells (setC zeroM60) 145)) (w.heap.size + 2) zeroM60 := ⟨by simpa using heap_alloc_new ((w.alloc (.cells #[.slice (some ⟨g, 0, none⟩) l.length c, Wn] 104)).alloc (.cells (setC m) 145)) (.cells (setC zeroM60) 145), rfl⟩
  have s0 : (((w.alloc (.cells #[.slice (some ⟨g, 0, none⟩) l.length c, Wn] 104)).alloc (.cells (setC m) 145)).alloc (.cells (setC zeroM60) 145)).cell? ⟨w.heap.size, 0, none⟩ = some (.slice (some ⟨g, 0, none⟩) l.length c) := cell_later ((Below.refl _ _).alloc (Nat.le_refl _) _) (cellB (heap_alloc2_old _ _ _) rfl)
  have hB0 : Below w.heap.size w (((w.alloc (.cells #[.slice (some ⟨g, 0, none⟩) l.length c, Wn] 104)).alloc (.cells (setC m) 145)).alloc (.cells (setC zeroM60) 145)) := (two_new ((Below.refl _ _).alloc (Nat.le_refl _) _)).2.2.1
  have hE0 := hE.below hB0
  have hsX : (((w.alloc (.cells #[.slice (some ⟨g, 0, none⟩) l.length c, Wn] 104)).alloc (.cells (setC m) 145)).alloc (.cells (setC zeroM60) 145)).heap.size = w.heap.size + 3 := by simp
  obtain ⟨c0, c1, c2, c3⟩ := hE0.get hb
  have j0 : (0 : Int) ≤ (j : Int) := by omega
  have jl : (j : Int) < (l.length : Int) := by omega
  obtain ⟨bth, bpl, ⟨bk, bi, bc⟩, bh⟩ := b
  simp only at c0 c1 c2 c3
  have t1 := s1.old (.cells #[.int .i64 bk, .int .i64 bi, .int .i64 bc] 140)
  have t2 := s2.old (.cells #[.int .i64 bk, .int .i64 bi, .int .i64 bc] 140)
  have t0 := cell_later ((Below.refl _ _).alloc (Nat.le_refl _) (.cells #[.int .i64 bk, .int .i64 bi, .int .i64 bc] 140)) s0
  have t3 := (new3_get (((w.alloc (.cells #[.slice (some ⟨g, 0, none⟩) l.length c, Wn] 104)).alloc (.cells (setC m) 145)).alloc (.cells (setC zeroM60) 145)) (.int .i64 bk) (.int .i64 bi) (.int .i64 bc) 140).2.1
  rw [hsX] at t3
  have hB1 := hB0.alloc hB0.size (.cells #[.int .i64 bk, .int .i64 bi, .int .i64 bc] 140)
  by_cases hk : bk = 5
  · have hr : addF l ⟨bth, bpl, ⟨bk, bi, bc⟩, bh⟩ j m = addI m (flgP l bi j) := by rw [addF, if_pos hk]
    rw [hr]
    subst hk
    generalize hres : flgP l bi j = res
    have HR : Hid (flgP l bi j = res) := hres
    clear hr hres
    go_enter Try.func126, Try.ntmps126
    go_wp2
    go_loopw [8] (fun x wr => ∃ k : Nat, k ≤ j ∧ x = .int .i64 ((k : Int) - 1) ∧ Hid (flgP l bi k = res) ∧ SetIn wr (w.heap.size + 1) m ∧ SetIn wr (w.heap.size + 2) zeroM60 ∧ wr.cell? ⟨w.heap.size, 0, none⟩ = some (.slice (some ⟨g, 0, none⟩) l.length c) ∧ wr.cell? ⟨w.heap.size + 3, 1, none⟩ = some (.int .i64 bi) ∧ Below w.heap.size w wr) (fun x _ => (intOf x + 1).toNat)
    case atStart => exact ⟨j, Nat.le_refl _, rfl, HR, t1, t2, t0, t3, hB1⟩
    case round =>
      obtain ⟨k, hk, rfl, HE, r1, r2, r0, r3, hBr⟩ := hrel
      clear HR s0 s1 s2 hB0 t0 t1 t2 t3 hB1 c0 c1 c2 c3 hsX hE0
      cases k with
      | zero =>
        have hres : res = -1 := by have h := HE.out; rw [flgP] at h; exact h.symm
        subst hres
        have HRR : Hid (addI m (-1) = m) := by rw [Hid, addI, if_neg (by omega)]
        have hld := r1.loadQ
        have hst := storeQ_run r2 r1.n
        have hfin := r2.setRow r1.n
        clear HE
        go_wp2
        exact bodyPost_ret (v := .agg (setC m)) (results_cell_row Try.results126 _ _ (w.heap.size + 2) _ _ _ _ rfl hfin.blk Try.underlying145 rfl (by rw [setC_size, r1.n]; exact info60)) rfl ⟨by rw [HRR.out], below_setRow hBr (by omega) _⟩
      | succ k =>
        have hz : (((k + 1 : Nat) : Int) - 1) = (k : Int) := by omega
        rw [hz]
        have hkl : k < l.length := by omega
        obtain ⟨a, ha⟩ : ∃ a, l[k]? = some a := ⟨l[k], by simp [hkl]⟩
        obtain ⟨d0, d1, d2, d3⟩ := (hE.below hBr).get ha
        have HE1 : Hid ((if chB a bi = true then (k : Int) else flgP l bi k) = res) := by
          have h := HE.out
          rw [flgP, ha] at h
          exact h
        obtain ⟨ath, apl, ⟨ak, ai, ac⟩, ah⟩ := a
        simp only at d0 d1 d2 d3
        have k0 : (0 : Int) ≤ (k : Int) := by omega
        have kl : (k : Int) < (l.length : Int) := by omega
        have k60 : (k : Int) < 60 := by omega
        have u1 := r1.old (.cells #[.int .i64 ak, .int .i64 ai, .int .i64 ac] 140)
        have u2 := r2.old (.cells #[.int .i64 ak, .int .i64 ai, .int .i64 ac] 140)
        have u0 := cell_later ((Below.refl _ _).alloc (Nat.le_refl _) (.cells #[.int .i64 ak, .int .i64 ai, .int .i64 ac] 140)) r0
        have u3 := cell_later ((Below.refl _ _).alloc (Nat.le_refl _) (.cells #[.int .i64 ak, .int .i64 ai, .int .i64 ac] 140)) r3
        have hBu := hBr.alloc hBr.size (.cells #[.int .i64 ak, .int .i64 ai, .int .i64 ac] 140)
        obtain ⟨q, hq⟩ : ∃ q, m[k]? = some q := ⟨m[k]'(by rw [r1.n]; omega), by simp⟩
        have cq := u1.cell hq
        have zq := u1.z k
        have u1' := u1.put k true
        have hld := u1'.loadQ
        have u2' := u2.other (p := ⟨w.heap.size + 1, k, none⟩) (by simp) (.bool true)
        have hst := storeQ_run u2' u1'.n
        have hfin := u2'.setRow u1'.n
        have hyes : ∀ (hy : chB ⟨ath, apl, ⟨ak, ai, ac⟩, ah⟩ bi = true), addI m res = m.set k true := fun hy => by
          have h := HE1.out
          rw [if_pos hy] at h
          rw [← h, addI, if_pos (by omega), Int.toNat_natCast]
        have hno : ∀ (hy : chB ⟨ath, apl, ⟨ak, ai, ac⟩, ah⟩ bi ≠ true), Hid (flgP l bi k = res) := fun hy => by
          have h := HE1.out
          rw [if_neg hy] at h
          exact h
        clear HE HE1 ha hq
        by_cases hai : ai = bi
        · subst hai
          by_cases h3 : ak = 3
          · subst h3
            have HRR : Hid (addI m res = m.set k true) := hyes (by simp [chB])
            clear hyes hno
            go_wp2
            exact bodyPost_ret (v := .agg (setC (m.set k true))) (results_cell_row Try.results126 _ _ (w.heap.size + 2) _ _ _ _ rfl hfin.blk Try.underlying145 rfl (by rw [setC_size, u1'.n]; exact info60)) rfl ⟨by rw [HRR.out], below_setRow (hBu.setCell (by simp) _) (by omega) _⟩
          · by_cases h4 : ak = 4
            · subst h4
              have HRR : Hid (addI m res = m.set k true) := hyes (by simp [chB])
              clear hyes hno
              go_wp2
              exact bodyPost_ret (v := .agg (setC (m.set k true))) (results_cell_row Try.results126 _ _ (w.heap.size + 2) _ _ _ _ rfl hfin.blk Try.underlying145 rfl (by rw [setC_size, u1'.n]; exact info60)) rfl ⟨by rw [HRR.out], below_setRow (hBu.setCell (by simp) _) (by omega) _⟩
            · have HN := hno (by simp [chB, h3, h4])
              have e3 : (ak == 3) = false := beq_false_of_ne h3
              have e4 : (ak == 4) = false := beq_false_of_ne h4
              clear hyes hno
              go_wp2
              go_roundw
              case rel => exact ⟨k, by omega, rfl, HN, u1, u2, u0, u3, hBu⟩
              case measure => (simp [intOf] <;> omega)
        · have HN := hno (by simp [chB, hai])
          have ei : (ai == bi) = false := beq_false_of_ne hai
          clear hyes hno
          by_cases h3 : ak = 3
          · subst h3
            go_wp2
            go_roundw
            case rel => exact ⟨k, by omega, rfl, HN, u1, u2, u0, u3, hBu⟩
            case measure => (simp [intOf] <;> omega)
          · have e3 : (ak == 3) = false := beq_false_of_ne h3
            by_cases h4 : ak = 4
            · subst h4
              go_wp2
              go_roundw
              case rel => exact ⟨k, by omega, rfl, HN, u1, u2, u0, u3, hBu⟩
              case measure => (simp [intOf] <;> omega)
            · have e4 : (ak == 4) = false := beq_false_of_ne h4
              go_wp2
              go_roundw
              case rel => exact ⟨k, by omega, rfl, HN, u1, u2, u0, u3, hBu⟩
              case measure => (simp [intOf] <;> omega)
  · have hr : addF l ⟨bth, bpl, ⟨bk, bi, bc⟩, bh⟩ j m = m := by rw [addF, if_neg hk]
    rw [hr]
    have hk' : (bk != 5) = true := by simpa using hk
    have hld := t1.loadQ
    have hst := storeQ_run t2 hm
    have hfin := t2.setRow hm
    clear hr
    go_enter Try.func126, Try.ntmps126
    go_wp2
    exact bodyPost_ret (v := .agg (setC m)) (results_cell_row Try.results126 _ _ (w.heap.size + 2) _ _ _ _ rfl hfin.blk Try.underlying145 rfl (by rw [setC_size, hm]; exact info60)) rfl ⟨rfl, below_setRow hB1 (by omega) _⟩
end Go.Proofs.Ytfdbnilopfnifaa
