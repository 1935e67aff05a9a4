import Derived.Test.YtdfndcbakcmgiabDoorT2
import Derived.Test.YtdfndcbakcmgiabDoorE5
import Derived.Laws.StructEq
import Derived.ChangeKeysEq
namespace Go.Proofs.YtdfndcbakcmgiabDoor
open Go.RowKit

/-! Two sets compared. -/
def eqQ (x y : Value) : Sem Value := binOp .eql 156 x y
theorem eqQ_fold (x y : Value) : binOp .eql 156 x y = eqQ x y := rfl
theorem infoBool' : ∃ i, Tryd.prog.info? 4 = some i ∧ i.size = 1 := by
  obtain ⟨i, h1, _, h2, _⟩ := info_split infoBool
  exact ⟨i, h1, h2⟩
theorem part_bool (w : World) (m : List Bool) (j : Nat) (b : Bool) (h : m[j]? = some b) : (part 4 (setC m) (j * 1)).run Tryd.prog w = .ok (.bool b) w := by
  have h1 := setC_get h
  have hagg : (isAgg 4).run Tryd.prog w = .ok false w := by
    unfold isAgg
    rw [Sem.run_bind, run_underlying Tryd.underlying4 w]
    rfl
  simp [part, Sem.run_bind, hagg, h1]
theorem eqItems_bools (d : Nat) (w : World) (a b : List Bool) : ∀ (is : List Nat), (∀ i ∈ is, i < a.length ∧ i < b.length) →
    ∃ r : Bool, (Op.eqItems (d + 1) 4 1 (setC a) (setC b) is).run Tryd.prog w = .ok r w ∧ (r = true ↔ ∀ i ∈ is, a[i]? = b[i]?)
  | [], _ => ⟨true, by simp [Op.eqItems], by simp⟩
  | i :: is, h => by
    obtain ⟨h1, h2⟩ := h i (List.mem_cons_self ..)
    obtain ⟨r, hr, hiff⟩ := eqItems_bools d w a b is (fun x hx => h x (List.mem_cons_of_mem _ hx))
    have p1 := part_bool w a i a[i] (by simp [h1])
    have p2 := part_bool w b i b[i] (by simp [h2])
    have p3 := run_equalIn_bool' (P := Tryd.prog) w d 4 a[i] b[i] Tryd.underlying4
    simp only [Op.eqItems, Sem.run_bind, p1, p2, p3, Result.andThen_ok]
    by_cases he : a[i] = b[i]
    · refine ⟨r, by simpa [he] using hr, ?_⟩
      rw [hiff]
      simp [h1, h2, he]
    · refine ⟨false, by simp [he], ?_⟩
      simp [h1, h2, he]
theorem eqQ_run (w : World) (a b : List Bool) (ha : a.length = 60) (hb : b.length = 60) : ∃ r : Bool, (eqQ (.agg (setC a)) (.agg (setC b))).run Tryd.prog w = .ok (.bool r) w ∧ (r = true ↔ a = b) := by
  obtain ⟨i, hi, hs⟩ := infoBool'
  have hc : Tryd.prog.cellsOf 4 = 1 := by rw [Program.cellsOf, hi]; simp [hs]
  obtain ⟨r, hr, hiff⟩ := eqItems_bools 9998 w a b (List.range 60) (fun x hx => by have := List.mem_range.1 hx; omega)
  have hE := run_equalIn_array (P := Tryd.prog) w 9999 (setC a) (setC b) Tryd.underlying156 hi
  rw [hc, hr] at hE
  refine ⟨r, ?_, hiff.trans ⟨fun h => ?_, fun h i _ => by rw [h]⟩⟩
  · rw [eqQ, run_eql_struct, hE]; rfl
  · apply List.ext_getElem?
    intro x
    by_cases hx : x < 60
    · exact h x (List.mem_range.2 hx)
    · rw [List.getElem?_eq_none (by omega), List.getElem?_eq_none (by omega)]
theorem guardQ : Tryd.prog.eqGuardType Tryd.prog.depth 156 = false := by kernel_rfl
theorem guardS : Tryd.prog.eqGuardType Tryd.prog.depth 86 = false := by kernel_rfl

/-! Two steps compared. -/
def eqStp (x y : Value) : Sem Value := binOp .eql 86 x y
def neStp (x y : Value) : Sem Value := binOp .neq 86 x y
theorem eqStp_fold (x y : Value) : binOp .eql 86 x y = eqStp x y := rfl
theorem neStp_fold (x y : Value) : binOp .neq 86 x y = neStp x y := rfl
def Stp.agg (x : Stp) : Value := .agg #[.int .i64 x.kind, .int .i64 x.which, .int .i64 x.count]
theorem stoodS : Tryd.prog.stoodInHeld 86 = false := by kernel_rfl
theorem fieldsS : Tryd.prog.underlying 86 = some (.struct (Tryd.prog.fieldsOf 86)) := by
  rw [Program.fieldsOf, Tryd.underlying86]
theorem part_int (w : World) (cs : Array Value) (j : Nat) (v : Value) (h : cs[j]? = some v) : (part 3 cs j).run Tryd.prog w = .ok v w := by
  have hagg : (isAgg 3).run Tryd.prog w = .ok false w := by
    unfold isAgg
    rw [Sem.run_bind, run_underlying Tryd.underlying3 w]
    rfl
  simp [part, Sem.run_bind, hagg, h]
theorem stp_eq (w : World) (a b a' b' a'' b'' : Int) : (Op.equalIn 10000 86 (.agg #[.int .i64 a, .int .i64 a', .int .i64 a'']) (.agg #[.int .i64 b, .int .i64 b', .int .i64 b''])).run Tryd.prog w = .ok (decide (a = b ∧ a' = b' ∧ a'' = b'')) w := by
  rw [run_equalIn_struct w 9999 _ _ _ fieldsS stoodS]
  rw [Program.fieldsOf, Tryd.underlying86]
  have e : ∀ x y : Int, (Op.equalIn 9999 3 (.int .i64 x) (.int .i64 y)).run Tryd.prog w = .ok (x == y) w := fun x y => run_equalIn_int (P := Tryd.prog) w 9998 3 .i64 .i64 x y Tryd.underlying3
  have p0 : ∀ x y z : Int, (part 3 #[.int .i64 x, .int .i64 y, .int .i64 z] 0).run Tryd.prog w = .ok (.int .i64 x) w := fun x y z => part_int w _ 0 _ rfl
  have p1 : ∀ x y z : Int, (part 3 #[.int .i64 x, .int .i64 y, .int .i64 z] 1).run Tryd.prog w = .ok (.int .i64 y) w := fun x y z => part_int w _ 1 _ rfl
  have p2 : ∀ x y z : Int, (part 3 #[.int .i64 x, .int .i64 y, .int .i64 z] 2).run Tryd.prog w = .ok (.int .i64 z) w := fun x y z => part_int w _ 2 _ rfl
  have n1 : "Kind" ≠ "_" := by decide
  have n2 : "Which" ≠ "_" := by decide
  have n3 : "Count" ≠ "_" := by decide
  simp only [Op.eqFields, if_pos n1, if_pos n2, if_pos n3, Sem.run_bind, Result.andThen_ok, p0, e]
  by_cases h0 : a = b
  · by_cases h1 : a' = b'
    · by_cases h2 : a'' = b''
      · simp [h0, h1, h2, p1, p2, e]
      · simp [h0, h1, h2, p1, p2, e]
    · simp [h0, h1, p1, e]
  · simp [h0]
theorem eqStp_run (w : World) (a b a' b' a'' b'' : Int) : (eqStp (.agg #[.int .i64 a, .int .i64 a', .int .i64 a'']) (.agg #[.int .i64 b, .int .i64 b', .int .i64 b''])).run Tryd.prog w = .ok (.bool (decide (a = b ∧ a' = b' ∧ a'' = b''))) w := by
  rw [eqStp, run_eql_struct, stp_eq]; rfl
theorem neStp_run (w : World) (a b a' b' a'' b'' : Int) : (neStp (.agg #[.int .i64 a, .int .i64 a', .int .i64 a'']) (.agg #[.int .i64 b, .int .i64 b', .int .i64 b''])).run Tryd.prog w = .ok (.bool (!decide (a = b ∧ a' = b' ∧ a'' = b''))) w := by
  rw [neStp, run_neq_struct, stp_eq]; rfl

/-! The events that some events need. -/
theorem MvsAt.get {w : World} {g : Nat} {l : List Mv} (h : MvsAt w g l) {j : Nat} {a : Mv} (ha : l[j]? = some a) :
    w.cell? ⟨g, j * 6, none⟩ = some (.int .i64 a.th) ∧ w.cell? ⟨g, j * 6 + 2, none⟩ = some (.int .i64 a.x.kind) ∧ w.cell? ⟨g, j * 6 + 3, none⟩ = some (.int .i64 a.x.which) ∧ w.cell? ⟨g, j * 6 + 4, none⟩ = some (.int .i64 a.x.count) :=
  ⟨h j a ha 0 _ rfl, h j a ha 2 _ rfl, h j a ha 3 _ rfl, h j a ha 4 _ rfl⟩
/-- Does a move set or clear the flag? -/
def chB (a : Mv) (u : Int) : Bool := decide ((a.x.kind = 3 ∨ a.x.kind = 4) ∧ a.x.which = u)
def flgP (l : List Mv) (u : Int) : Nat → Int
  | 0 => -1
  | c + 1 => if (l[c]?.map fun a => chB a u).getD false = true then c else flgP l u c
def addI (m : List Bool) (i : Int) : List Bool := if 0 ≤ i then m.set i.toNat true else m
theorem flgP_lt (l : List Mv) (u : Int) : ∀ c, flgP l u c = -1 ∨ ∃ i : Nat, flgP l u c = i ∧ i < c
  | 0 => .inl rfl
  | c + 1 => by
    rw [flgP]
    split
    · exact .inr ⟨c, rfl, by omega⟩
    · rcases flgP_lt l u c with h | ⟨i, h, hi⟩
      · exact .inl h
      · exact .inr ⟨i, h, by omega⟩
/-- The set with the event that made the flag what event j sees. -/
def addF (l : List Mv) (b : Mv) (j : Nat) (m : List Bool) : List Bool := if b.x.kind = 5 then addI m (flgP l b.x.which j) else m

attribute [local go_sem ↓] loadQ_fold storeQ_fold zeroQ_fold loadV_fold eqQ_fold eqStp_fold neStp_fold

set_option maxRecDepth 100000 in
set_option maxHeartbeats 2000000 in
theorem addFlagChange_any (g c : Nat) (Wn : Value) (l : List Mv) (m : List Bool) (hm : m.length = 60) (w : World) (hE : MvsAt w g l) (j : Nat) (b : Mv) (hb : l[j]? = some b) (hl : l.length ≤ 60) (y : Int) (hy : y = j) :
    Calls Tryd.prog 93 #[.agg #[.slice (some ⟨g, 0, none⟩) l.length c, Wn], .agg (setC m), .int .i64 y] w fun e w' => e = .returned (.agg (setC (addF l b j m))) ∧ Below w.heap.size w w' := by
  subst hy
  have hj : j < l.length := (List.getElem?_eq_some_iff.1 hb).1
  have s1 : SetIn (((w.alloc (.cells #[.slice (some ⟨g, 0, none⟩) l.length c, Wn] 52)).alloc (.cells (setC m) 156)).alloc (.cells (setC zeroM60) 156)) (w.heap.size + 1) m := SetIn.old ⟨heap_alloc2_new _ _ _, hm⟩ _
  have s2 : SetIn (((w.alloc (.cells #[.slice (some ⟨g, 0, none⟩) l.length c, Wn] 52)).alloc (.cells (setC m) 156)).alloc (.cells (setC zeroM60) 156)) (w.heap.size + 2) zeroM60 := ⟨by simpa using heap_alloc_new ((w.alloc (.cells #[.slice (some ⟨g, 0, none⟩) l.length c, Wn] 52)).alloc (.cells (setC m) 156)) (.cells (setC zeroM60) 156), rfl⟩
  have s0 : (((w.alloc (.cells #[.slice (some ⟨g, 0, none⟩) l.length c, Wn] 52)).alloc (.cells (setC m) 156)).alloc (.cells (setC zeroM60) 156)).cell? ⟨w.heap.size, 0, none⟩ = some (.slice (some ⟨g, 0, none⟩) l.length c) := cell_later ((Below.refl _ _).alloc (Nat.le_refl _) _) (cellB (heap_alloc2_old _ _ _) rfl)
  have hB0 : Below w.heap.size w (((w.alloc (.cells #[.slice (some ⟨g, 0, none⟩) l.length c, Wn] 52)).alloc (.cells (setC m) 156)).alloc (.cells (setC zeroM60) 156)) := (two_new ((Below.refl _ _).alloc (Nat.le_refl _) _)).2.2.1
  have hE0 := hE.below hB0
  have hsX : (((w.alloc (.cells #[.slice (some ⟨g, 0, none⟩) l.length c, Wn] 52)).alloc (.cells (setC m) 156)).alloc (.cells (setC zeroM60) 156)).heap.size = w.heap.size + 3 := by simp
  obtain ⟨c0, c1, c2, c3⟩ := hE0.get hb
  have j0 : (0 : Int) ≤ (j : Int) := by omega
  have jl : (j : Int) < (l.length : Int) := by omega
  obtain ⟨bth, bpl, ⟨bk, bi, bc⟩, bh⟩ := b
  simp only at c0 c1 c2 c3
  have t1 := s1.old (.cells #[.int .i64 bk, .int .i64 bi, .int .i64 bc] 86)
  have t2 := s2.old (.cells #[.int .i64 bk, .int .i64 bi, .int .i64 bc] 86)
  have t0 := cell_later ((Below.refl _ _).alloc (Nat.le_refl _) (.cells #[.int .i64 bk, .int .i64 bi, .int .i64 bc] 86)) s0
  have t3 := (new3_get (((w.alloc (.cells #[.slice (some ⟨g, 0, none⟩) l.length c, Wn] 52)).alloc (.cells (setC m) 156)).alloc (.cells (setC zeroM60) 156)) (.int .i64 bk) (.int .i64 bi) (.int .i64 bc) 86).2.1
  rw [hsX] at t3
  have hB1 := hB0.alloc hB0.size (.cells #[.int .i64 bk, .int .i64 bi, .int .i64 bc] 86)
  by_cases hk : bk = 5
  · have hr : addF l ⟨bth, bpl, ⟨bk, bi, bc⟩, bh⟩ j m = addI m (flgP l bi j) := by rw [addF, if_pos hk]
    rw [hr]
    subst hk
    generalize hres : flgP l bi j = res
    have HR : Hid (flgP l bi j = res) := hres
    clear hr hres
    go_enter Tryd.func93, Tryd.ntmps93
    go_wp2
    go_loopw [8] (fun x wr => ∃ k : Nat, k ≤ j ∧ x = .int .i64 ((k : Int) - 1) ∧ Hid (flgP l bi k = res) ∧ SetIn wr (w.heap.size + 1) m ∧ SetIn wr (w.heap.size + 2) zeroM60 ∧ wr.cell? ⟨w.heap.size, 0, none⟩ = some (.slice (some ⟨g, 0, none⟩) l.length c) ∧ wr.cell? ⟨w.heap.size + 3, 1, none⟩ = some (.int .i64 bi) ∧ Below w.heap.size w wr) (fun x _ => (intOf x + 1).toNat)
    case atStart => exact ⟨j, Nat.le_refl _, rfl, HR, t1, t2, t0, t3, hB1⟩
    case round =>
      obtain ⟨k, hk, rfl, HE, r1, r2, r0, r3, hBr⟩ := hrel
      clear HR s0 s1 s2 hB0 t0 t1 t2 t3 hB1 c0 c1 c2 c3 hsX hE0
      cases k with
      | zero =>
        have hres : res = -1 := by have h := HE.out; rw [flgP] at h; exact h.symm
        subst hres
        have HRR : Hid (addI m (-1) = m) := by rw [Hid, addI, if_neg (by omega)]
        have hld := r1.loadQ
        have hst := storeQ_run r2 r1.n
        have hfin := r2.setRow r1.n
        clear HE
        go_wp2
        exact bodyPost_ret (v := .agg (setC m)) (results_cell_row Tryd.results93 _ _ (w.heap.size + 2) _ _ _ _ rfl hfin.blk Tryd.underlying156 rfl (by rw [setC_size, r1.n]; exact info60)) rfl ⟨by rw [HRR.out], below_setRow hBr (by omega) _⟩
      | succ k =>
        have hz : (((k + 1 : Nat) : Int) - 1) = (k : Int) := by omega
        rw [hz]
        have hkl : k < l.length := by omega
        obtain ⟨a, ha⟩ : ∃ a, l[k]? = some a := ⟨l[k], by simp [hkl]⟩
        obtain ⟨d0, d1, d2, d3⟩ := (hE.below hBr).get ha
        have HE1 : Hid ((if chB a bi = true then (k : Int) else flgP l bi k) = res) := by
          have h := HE.out
          rw [flgP, ha] at h
          exact h
        obtain ⟨ath, apl, ⟨ak, ai, ac⟩, ah⟩ := a
        simp only at d0 d1 d2 d3
        have k0 : (0 : Int) ≤ (k : Int) := by omega
        have kl : (k : Int) < (l.length : Int) := by omega
        have k60 : (k : Int) < 60 := by omega
        have u1 := r1.old (.cells #[.int .i64 ak, .int .i64 ai, .int .i64 ac] 86)
        have u2 := r2.old (.cells #[.int .i64 ak, .int .i64 ai, .int .i64 ac] 86)
        have u0 := cell_later ((Below.refl _ _).alloc (Nat.le_refl _) (.cells #[.int .i64 ak, .int .i64 ai, .int .i64 ac] 86)) r0
        have u3 := cell_later ((Below.refl _ _).alloc (Nat.le_refl _) (.cells #[.int .i64 ak, .int .i64 ai, .int .i64 ac] 86)) r3
        have hBu := hBr.alloc hBr.size (.cells #[.int .i64 ak, .int .i64 ai, .int .i64 ac] 86)
        obtain ⟨q, hq⟩ : ∃ q, m[k]? = some q := ⟨m[k]'(by rw [r1.n]; omega), by simp⟩
        have cq := u1.cell hq
        have zq := u1.z k
        have u1' := u1.put k true
        have hld := u1'.loadQ
        have u2' := u2.other (p := ⟨w.heap.size + 1, k, none⟩) (by simp) (.bool true)
        have hst := storeQ_run u2' u1'.n
        have hfin := u2'.setRow u1'.n
        have hyes : ∀ (hy : chB ⟨ath, apl, ⟨ak, ai, ac⟩, ah⟩ bi = true), addI m res = m.set k true := fun hy => by
          have h := HE1.out
          rw [if_pos hy] at h
          rw [← h, addI, if_pos (by omega), Int.toNat_natCast]
        have hno : ∀ (hy : chB ⟨ath, apl, ⟨ak, ai, ac⟩, ah⟩ bi ≠ true), Hid (flgP l bi k = res) := fun hy => by
          have h := HE1.out
          rw [if_neg hy] at h
          exact h
        clear HE HE1 ha hq
        by_cases hai : ai = bi
        · subst hai
          by_cases h3 : ak = 3
          · subst h3
            have HRR : Hid (addI m res = m.set k true) := hyes (by simp [chB])
            clear hyes hno
            go_wp2
            exact bodyPost_ret (v := .agg (setC (m.set k true))) (results_cell_row Tryd.results93 _ _ (w.heap.size + 2) _ _ _ _ rfl hfin.blk Tryd.underlying156 rfl (by rw [setC_size, u1'.n]; exact info60)) rfl ⟨by rw [HRR.out], below_setRow (hBu.setCell (by simp) _) (by omega) _⟩
          · by_cases h4 : ak = 4
            · subst h4
              have HRR : Hid (addI m res = m.set k true) := hyes (by simp [chB])
              clear hyes hno
              go_wp2
              exact bodyPost_ret (v := .agg (setC (m.set k true))) (results_cell_row Tryd.results93 _ _ (w.heap.size + 2) _ _ _ _ rfl hfin.blk Tryd.underlying156 rfl (by rw [setC_size, u1'.n]; exact info60)) rfl ⟨by rw [HRR.out], below_setRow (hBu.setCell (by simp) _) (by omega) _⟩
            · have HN := hno (by simp [chB, h3, h4])
              have e3 : (ak == 3) = false := beq_false_of_ne h3
              have e4 : (ak == 4) = false := beq_false_of_ne h4
              clear hyes hno
              go_wp2
              go_roundw
              case rel => exact ⟨k, by omega, rfl, HN, u1, u2, u0, u3, hBu⟩
              case measure => (simp [intOf] <;> omega)
        · have HN := hno (by simp [chB, hai])
          have ei : (ai == bi) = false := beq_false_of_ne hai
          clear hyes hno
          by_cases h3 : ak = 3
          · subst h3
            go_wp2
            go_roundw
            case rel => exact ⟨k, by omega, rfl, HN, u1, u2, u0, u3, hBu⟩
            case measure => (simp [intOf] <;> omega)
          · have e3 : (ak == 3) = false := beq_false_of_ne h3
            by_cases h4 : ak = 4
            · subst h4
              go_wp2
              go_roundw
              case rel => exact ⟨k, by omega, rfl, HN, u1, u2, u0, u3, hBu⟩
              case measure => (simp [intOf] <;> omega)
            · have e4 : (ak == 4) = false := beq_false_of_ne h4
              go_wp2
              go_roundw
              case rel => exact ⟨k, by omega, rfl, HN, u1, u2, u0, u3, hBu⟩
              case measure => (simp [intOf] <;> omega)
  · have hr : addF l ⟨bth, bpl, ⟨bk, bi, bc⟩, bh⟩ j m = m := by rw [addF, if_neg hk]
    rw [hr]
    have hk' : (bk != 5) = true := by simpa using hk
    have hld := t1.loadQ
    have hst := storeQ_run t2 hm
    have hfin := t2.setRow hm
    clear hr
    go_enter Tryd.func93, Tryd.ntmps93
    go_wp2
    exact bodyPost_ret (v := .agg (setC m)) (results_cell_row Tryd.results93 _ _ (w.heap.size + 2) _ _ _ _ rfl hfin.blk Tryd.underlying156 rfl (by rw [setC_size, hm]; exact info60)) rfl ⟨rfl, below_setRow hB1 (by omega) _⟩
end Go.Proofs.YtdfndcbakcmgiabDoor
namespace Go.Proofs.YtdfndcbakcmgiabDoor
open Go.RowKit
attribute [local go_sem ↓] loadQ_fold storeQ_fold zeroQ_fold eqQ_fold eqStp_fold neStp_fold

/-- Does a move give thread t's lock u back? -/
def gvB (a : Mv) (t : Nat) (u : Int) : Bool := decide (a.th = t) && decide (a.x.kind = 2 ∧ a.x.which = u ∧ a.x.count = 0)
def gvP (l : List Mv) (t : Nat) (u : Int) (k : Nat) : Int :=
  if k < l.length then (if (l[k]?.map fun a => gvB a t u).getD false = true then (k : Int) else gvP l t u (k + 1)) else -1
termination_by l.length - k
theorem gvP_lt (l : List Mv) (t : Nat) (u : Int) : ∀ d k, l.length - k = d → gvP l t u k = -1 ∨ ∃ i : Nat, gvP l t u k = i ∧ i < l.length := by
  intro d
  induction d with
  | zero => intro k hd; rw [gvP, if_neg (by omega)]; exact .inl rfl
  | succ d ih =>
    intro k hd
    rw [gvP, if_pos (by omega)]
    split
    · exact .inr ⟨k, rfl, by omega⟩
    · exact ih (k + 1) (by omega)

set_option maxRecDepth 100000 in
set_option maxHeartbeats 2000000 in
theorem giveBehind_any (g c : Nat) (Wn : Value) (l : List Mv) (w : World) (hE : MvsAt w g l) (i : Nat) (b : Mv) (hb : l[i]? = some b) (hl : l.length ≤ 60) (y : Int) (hy : y = i) :
    Calls Tryd.prog 101 #[.agg #[.slice (some ⟨g, 0, none⟩) l.length c, Wn], .int .i64 y] w fun e w' => e = .returned (.int .i64 (gvP l b.th b.x.which (i + 1))) ∧ Below w.heap.size w w' := by
  subst hy
  have hi : i < l.length := (List.getElem?_eq_some_iff.1 hb).1
  have hB0 := (Below.refl w.heap.size w).alloc (Nat.le_refl _) (.cells #[.slice (some ⟨g, 0, none⟩) l.length c, Wn] 52)
  obtain ⟨bth, bpl, ⟨bk, bi, bc⟩, bh⟩ := b
  have hB1 : Below w.heap.size w ((w.alloc (.cells #[.slice (some ⟨g, 0, none⟩) l.length c, Wn] 52)).alloc (.cells #[.int .i64 2, .int .i64 bi, .int .i64 0] 86)) := (two_new (Below.refl _ _)).2.2.1
  have x0 : ((w.alloc (.cells #[.slice (some ⟨g, 0, none⟩) l.length c, Wn] 52)).alloc (.cells #[.int .i64 2, .int .i64 bi, .int .i64 0] 86)).cell? ⟨w.heap.size, 0, none⟩ = some (.slice (some ⟨g, 0, none⟩) l.length c) := cellB (heap_alloc2_old _ _ _) rfl
  have y0 : ∀ (i : Nat) v, #[Value.int .i64 2, .int .i64 bi, .int .i64 0][i]? = some v → ((w.alloc (.cells #[.slice (some ⟨g, 0, none⟩) l.length c, Wn] 52)).alloc (.cells #[.int .i64 2, .int .i64 bi, .int .i64 0] 86)).cell? ⟨w.heap.size + 1, i, none⟩ = some v := fun i v hv => cellB (heap_alloc2_new _ _ _) hv
  have hE1 := hE.below hB1
  have hE0 := hE.below hB0
  obtain ⟨_, _, c2, _⟩ := hE0.get hb
  obtain ⟨e0, _, _, _⟩ := hE1.get hb
  simp only at c2 e0
  have i0 : (0 : Int) ≤ (i : Int) := by omega
  have il : (i : Int) < (l.length : Int) := by omega
  generalize hX : (w.alloc (.cells #[.slice (some ⟨g, 0, none⟩) l.length c, Wn] 52)).alloc (.cells #[.int .i64 2, .int .i64 bi, .int .i64 0] 86) = X at *
  have HX := show Hid _ from hX
  clear hX
  generalize hres : gvP l bth bi (i + 1) = res
  have HR : Hid (gvP l bth bi (i + 1) = res) := hres
  clear hres
  have z0 : X.cell? ⟨w.heap.size + 1, 0, none⟩ = some (.int .i64 2) := y0 0 _ rfl
  have z1 : X.cell? ⟨w.heap.size + 1, 1, none⟩ = some (.int .i64 bi) := y0 1 _ rfl
  have z2 : X.cell? ⟨w.heap.size + 1, 2, none⟩ = some (.int .i64 0) := y0 2 _ rfl
  clear y0
  go_enter Tryd.func101, Tryd.ntmps101
  go_wp2
  rw [HX.out]
  go_loopw [6] (fun x wr => ∃ k : Nat, i + 1 ≤ k ∧ k ≤ l.length ∧ x = .int .i64 (k : Int) ∧ Hid (gvP l bth bi k = res) ∧ Below X.heap.size X wr) (fun x _ => l.length - (intOf x).toNat)
  case atStart => exact ⟨i + 1, Nat.le_refl _, hi, rfl, HR, Below.refl _ _⟩
  case round =>
    obtain ⟨k, hik, hk, rfl, HE, hBr⟩ := hrel
    have q0 := cell_later hBr x0
    have hBw := hB1.trans (hBr.mono hB1.size)
    by_cases hkl : k < l.length
    · obtain ⟨a, ha⟩ : ∃ a, l[k]? = some a := ⟨l[k], by simp [hkl]⟩
      obtain ⟨d0, d1, d2, d3⟩ := (hE1.below hBr).get ha
      have f0 := cell_later hBr e0
      have q1 := cell_later hBr z0
      have q2 := cell_later hBr z1
      have q3 := cell_later hBr z2
      have HE1 : Hid ((if gvB a bth bi = true then (k : Int) else gvP l bth bi (k + 1)) = res) := by
        have h := HE.out
        rw [gvP, if_pos hkl, ha] at h
        exact h
      obtain ⟨ath, apl, ⟨ak, ai, ac⟩, ah⟩ := a
      simp only at d0 d1 d2 d3
      have k0 : (0 : Int) ≤ (k : Int) := by omega
      have kl : (k : Int) < (l.length : Int) := by omega
      have hq := fun w => eqStp_run w ak 2 ai bi ac 0
      have hgd := guardS
      have hgB : gvB ⟨ath, apl, ⟨ak, ai, ac⟩, ah⟩ bth bi = (decide (ath = bth) && decide (ak = 2 ∧ ai = bi ∧ ac = 0)) := rfl
      rw [hgB] at HE1
      generalize decide (ak = 2 ∧ ai = bi ∧ ac = 0) = d at *
      clear HE HR ha hgB x0 z0 z1 z2 e0 c2 hE0
      by_cases ht : ath = bth
      · subst ht
        rw [decide_eq_true rfl] at HE1
        cases d with
        | true =>
          have hres : res = k := by have h := HE1.out; exact h.symm
          subst hres
          clear HE1
          go_upto_region 5 with fail
          go_quiet (fail)
          go_wp2
          go_ret
          exact ⟨rfl, hBw.trans ((below_drewN _ _).mono hBw.size)⟩
        | false =>
          have HN : Hid (gvP l ath bi (k + 1) = res) := by have h := HE1.out; exact h
          clear HE1
          go_upto_region 5 with fail
          go_quiet (fail)
          go_wp2
          go_roundw
          case rel => exact ⟨k + 1, by omega, by omega, rfl, HN, hBr.trans ((below_drewN _ _).mono hBr.size)⟩
          case measure => (simp [intOf] <;> omega)
      · rw [decide_eq_false ht] at HE1
        have hne : ((ath : Int) == (bth : Int)) = false := beq_false_of_ne (by omega)
        have HN : Hid (gvP l bth bi (k + 1) = res) := by have h := HE1.out; exact h
        clear HE1
        go_upto_region 5 with fail
        go_quiet (fail)
        go_wp2
        go_roundw
        case rel => exact ⟨k + 1, by omega, by omega, rfl, HN, hBr.trans ((below_drewN _ _).mono hBr.size)⟩
        case measure => (simp [intOf] <;> omega)
    · have hres : res = -1 := by have h := HE.out; rw [gvP, if_neg hkl] at h; exact h.symm
      subst hres
      have kl : ¬ (k : Int) < (l.length : Int) := by omega
      clear HE HR
      go_wp2
      go_ret
      exact ⟨rfl, hBw⟩
end Go.Proofs.YtdfndcbakcmgiabDoor
namespace Go.Proofs.YtdfndcbakcmgiabDoor
open Go.RowKit
attribute [local go_sem ↓] loadQ_fold storeQ_fold zeroQ_fold eqQ_fold eqStp_fold neStp_fold

def tkB (a : Mv) (x : Stp) : Bool := decide (a.x.kind = x.kind ∧ a.x.which = x.which ∧ a.x.count = x.count)
/-- The event that gives back what event i takes, or -1. -/
def gvI (l : List Mv) (i : Nat) : Int := (l[i]?.map fun a => gvP l a.th a.x.which (i + 1)).getD (-1)
def gvsP (l : List Mv) (j : Nat) (x : Stp) (i : Nat) (m : List Bool) : List Bool :=
  if i < j then gvsP l j x (i + 1) (if (m[i]?.getD false && (l[i]?.map fun a => tkB a x).getD false) = true then addI m (gvI l i) else m) else m
termination_by j - i
def addG (l : List Mv) (b : Mv) (j : Nat) (m : List Bool) : List Bool := if b.x.kind = 1 then gvsP l j b.x 0 m else m
theorem addI_len (m : List Bool) (i : Int) : (addI m i).length = m.length := by unfold addI; split <;> simp
theorem gvsP_len (l : List Mv) (j : Nat) (x : Stp) : ∀ (d i : Nat) (m : List Bool), j - i = d → (gvsP l j x i m).length = m.length := by
  intro d
  induction d with
  | zero => intro i m hd; rw [gvsP, if_neg (by omega)]
  | succ d ih =>
    intro i m hd
    rw [gvsP, if_pos (by omega), ih (i + 1) _ (by omega)]
    split
    · exact addI_len _ _
    · rfl
theorem addG_len (l : List Mv) (b : Mv) (j : Nat) (m : List Bool) : (addG l b j m).length = m.length := by
  unfold addG
  split
  · exact gvsP_len l j _ _ 0 m rfl
  · rfl
theorem addF_len (l : List Mv) (b : Mv) (j : Nat) (m : List Bool) : (addF l b j m).length = m.length := by
  unfold addF
  split
  · exact addI_len _ _
  · rfl

set_option maxRecDepth 100000 in
set_option maxHeartbeats 2000000 in
theorem addGives_any (g c : Nat) (Wn : Value) (l : List Mv) (m : List Bool) (hm : m.length = 60) (w : World) (hE : MvsAt w g l) (j : Nat) (b : Mv) (hb : l[j]? = some b) (hl : l.length ≤ 60) (y : Int) (hy : y = j) :
    Calls Tryd.prog 94 #[.agg #[.slice (some ⟨g, 0, none⟩) l.length c, Wn], .agg (setC m), .int .i64 y] w fun e w' => e = .returned (.agg (setC (addG l b j m))) ∧ Below w.heap.size w w' := by
  subst hy
  have hj : j < l.length := (List.getElem?_eq_some_iff.1 hb).1
  have s1 : SetIn (((w.alloc (.cells #[.slice (some ⟨g, 0, none⟩) l.length c, Wn] 52)).alloc (.cells (setC m) 156)).alloc (.cells (setC zeroM60) 156)) (w.heap.size + 1) m := SetIn.old ⟨heap_alloc2_new _ _ _, hm⟩ _
  have s2 : SetIn (((w.alloc (.cells #[.slice (some ⟨g, 0, none⟩) l.length c, Wn] 52)).alloc (.cells (setC m) 156)).alloc (.cells (setC zeroM60) 156)) (w.heap.size + 2) zeroM60 := ⟨by simpa using heap_alloc_new ((w.alloc (.cells #[.slice (some ⟨g, 0, none⟩) l.length c, Wn] 52)).alloc (.cells (setC m) 156)) (.cells (setC zeroM60) 156), rfl⟩
  have s0 : ∀ (i : Nat) (v : Value), #[.slice (some ⟨g, 0, none⟩) l.length c, Wn][i]? = some v → (((w.alloc (.cells #[.slice (some ⟨g, 0, none⟩) l.length c, Wn] 52)).alloc (.cells (setC m) 156)).alloc (.cells (setC zeroM60) 156)).cell? ⟨w.heap.size, i, none⟩ = some v := fun i v hv => cell_later ((Below.refl _ _).alloc (Nat.le_refl _) _) (cellB (heap_alloc2_old _ _ _) hv)
  have hB0 : Below w.heap.size w (((w.alloc (.cells #[.slice (some ⟨g, 0, none⟩) l.length c, Wn] 52)).alloc (.cells (setC m) 156)).alloc (.cells (setC zeroM60) 156)) := (two_new ((Below.refl _ _).alloc (Nat.le_refl _) _)).2.2.1
  have hE0 := hE.below hB0
  have hsX : (((w.alloc (.cells #[.slice (some ⟨g, 0, none⟩) l.length c, Wn] 52)).alloc (.cells (setC m) 156)).alloc (.cells (setC zeroM60) 156)).heap.size = w.heap.size + 3 := by simp
  obtain ⟨c0, c1, c2, c3⟩ := hE0.get hb
  have a0 := s0 0 _ rfl
  have a1 := s0 1 _ rfl
  simp only [List.getElem_toArray, List.getElem_cons_zero, List.getElem_cons_succ] at a0 a1
  have j0 : (0 : Int) ≤ (j : Int) := by omega
  have jl : (j : Int) < (l.length : Int) := by omega
  obtain ⟨bth, bpl, ⟨bk, bi, bc⟩, bh⟩ := b
  simp only at c0 c1 c2 c3
  have t1 := s1.old (.cells #[.int .i64 bk, .int .i64 bi, .int .i64 bc] 86)
  have t2 := s2.old (.cells #[.int .i64 bk, .int .i64 bi, .int .i64 bc] 86)
  have t0 := cell_later ((Below.refl _ _).alloc (Nat.le_refl _) (.cells #[.int .i64 bk, .int .i64 bi, .int .i64 bc] 86)) a0
  have t0' := cell_later ((Below.refl _ _).alloc (Nat.le_refl _) (.cells #[.int .i64 bk, .int .i64 bi, .int .i64 bc] 86)) a1
  obtain ⟨t3, t4, t5⟩ := new3_get (((w.alloc (.cells #[.slice (some ⟨g, 0, none⟩) l.length c, Wn] 52)).alloc (.cells (setC m) 156)).alloc (.cells (setC zeroM60) 156)) (.int .i64 bk) (.int .i64 bi) (.int .i64 bc) 86
  rw [hsX] at t3 t4 t5
  have hB1 := hB0.alloc hB0.size (.cells #[.int .i64 bk, .int .i64 bi, .int .i64 bc] 86)
  by_cases hk : bk = 1
  · have hr : addG l ⟨bth, bpl, ⟨bk, bi, bc⟩, bh⟩ j m = gvsP l j ⟨bk, bi, bc⟩ 0 m := by rw [addG, if_pos hk]
    rw [hr]
    subst hk
    generalize hres : gvsP l j ⟨1, bi, bc⟩ 0 m = res
    have HR : Hid (gvsP l j ⟨1, bi, bc⟩ 0 m = res) := hres
    clear hr hres s0
    go_enter Tryd.func94, Tryd.ntmps94
    go_wp2
    go_loopw [8] (fun x wr => ∃ (k : Nat) (m : List Bool), k ≤ j ∧ x = .int .i64 (k : Int) ∧ Hid (gvsP l j ⟨1, bi, bc⟩ k m = res) ∧ SetIn wr (w.heap.size + 1) m ∧ SetIn wr (w.heap.size + 2) zeroM60 ∧ wr.cell? ⟨w.heap.size, 0, none⟩ = some (.slice (some ⟨g, 0, none⟩) l.length c) ∧ wr.cell? ⟨w.heap.size, 1, none⟩ = some Wn ∧ wr.cell? ⟨w.heap.size + 3, 0, none⟩ = some (.int .i64 1) ∧ wr.cell? ⟨w.heap.size + 3, 1, none⟩ = some (.int .i64 bi) ∧ wr.cell? ⟨w.heap.size + 3, 2, none⟩ = some (.int .i64 bc) ∧ Below w.heap.size w wr) (fun x _ => j - (intOf x).toNat)
    case atStart => exact ⟨0, m, Nat.zero_le _, rfl, HR, t1, t2, t0, t0', t3, t4, t5, hB1⟩
    case round =>
      obtain ⟨k, m, hk, rfl, HE, r1, r2, r0, r0', r3, r4, r5, hBr⟩ := hrel
      clear HR s1 s2 hB0 t0 t1 t2 t3 t4 t5 t0' a0 a1 hB1 c0 c1 c2 c3 hsX hE0
      by_cases hkj : k < j
      · have hkl : k < l.length := by omega
        obtain ⟨a, ha⟩ : ∃ a, l[k]? = some a := ⟨l[k], by simp [hkl]⟩
        obtain ⟨d0, d1, d2, d3⟩ := (hE.below hBr).get ha
        obtain ⟨q, hq⟩ : ∃ q, m[k]? = some q := ⟨m[k]'(by rw [r1.n]; omega), by simp⟩
        have HE1 : Hid (gvsP l j ⟨1, bi, bc⟩ (k + 1) (if (q && tkB a ⟨1, bi, bc⟩) = true then addI m (gvP l a.th a.x.which (k + 1)) else m) = res) := by
          have h := HE.out
          rw [gvsP, if_pos hkj, hq, ha, gvI, ha] at h
          exact h
        have hG := fun w' hw => giveBehind_any g c Wn l w' ((hE.below hBr).below (w' := w') hw) k a ha hl _ rfl
        have hgl := gvP_lt l a.th a.x.which _ (k + 1) rfl
        generalize gvP l a.th a.x.which (k + 1) = gi at *
        obtain ⟨ath, apl, ⟨ak, ai, ac⟩, ah⟩ := a
        simp only at d0 d1 d2 d3
        have cq := r1.cell hq
        have k0 : (0 : Int) ≤ (k : Int) := by omega
        have kl : (k : Int) < (l.length : Int) := by omega
        have kj : (k : Int) < (j : Int) := by omega
        have k60 : (k : Int) < 60 := by omega
        have hqn := fun w => neStp_run w ak 1 ai bi ac bc
        have hgd := guardS
        have hgB : tkB ⟨ath, apl, ⟨ak, ai, ac⟩, ah⟩ ⟨1, bi, bc⟩ = decide (ak = 1 ∧ ai = bi ∧ ac = bc) := rfl
        rw [hgB] at HE1
        generalize decide (ak = 1 ∧ ai = bi ∧ ac = bc) = d at *
        clear HE ha hgB
        cases q with
        | false =>
          have HN : Hid (gvsP l j ⟨1, bi, bc⟩ (k + 1) m = res) := by have h := HE1.out; exact h
          clear HE1
          go_upto_region 7 with fail
          go_quiet (fail)
          go_wp2
          go_roundw
          case rel => exact ⟨k + 1, m, by omega, rfl, HN, r1.below (below_drewN _ _), r2.below (below_drewN _ _), r0, r0', r3, r4, r5, hBr.trans ((below_drewN _ _).mono hBr.size)⟩
          case measure => (simp [intOf] <;> omega)
        | true =>
          cases d with
          | false =>
            have HN : Hid (gvsP l j ⟨1, bi, bc⟩ (k + 1) m = res) := by have h := HE1.out; exact h
            clear HE1
            go_upto_region 7 with fail
            go_quiet (fail)
            go_wp2
            go_roundw
            case rel => exact ⟨k + 1, m, by omega, rfl, HN, r1.below (below_drewN _ _), r2.below (below_drewN _ _), r0, r0', r3, r4, r5, hBr.trans ((below_drewN _ _).mono hBr.size)⟩
            case measure => (simp [intOf] <;> omega)
          | true =>
            have HN : Hid (gvsP l j ⟨1, bi, bc⟩ (k + 1) (addI m gi) = res) := by have h := HE1.out; exact h
            clear HE1
            go_upto_region 7 with fail
            go_quiet (fail)
            have hD : Below wr.heap.size wr (wr.drewN nq) := below_drewN _ _
            generalize wr.drewN nq = X at *
            have x1 := r1.below hD
            have x2 := r2.below hD
            have x0 := cell_later hD r0
            have x0' := cell_later hD r0'
            have x3 := cell_later hD r3
            have x4 := cell_later hD r4
            have x5 := cell_later hD r5
            have hBX := hBr.trans (hD.mono hBr.size)
            have hGX := hG X hD
            rcases hgl with hg1 | ⟨n, hg1, hn⟩
            · subst hg1
              have hadd : addI m (-1) = m := by rw [addI, if_neg (by omega)]
              rw [hadd] at HN
              clear hadd hG r1 r2 r0 r0' r3 r4 r5 hD
              go_wp2_with (first | (go_at_call 101; refine hGX.mono ?_; rintro e w2 ⟨rfl, hb2⟩))
              go_roundw
              case rel => exact ⟨k + 1, m, by omega, rfl, HN, x1.below hb2, x2.below hb2, cell_later hb2 x0, cell_later hb2 x0', cell_later hb2 x3, cell_later hb2 x4, cell_later hb2 x5, hBX.trans (hb2.mono hBX.size)⟩
              case measure => (simp [intOf] <;> omega)
            · subst hg1
              have hadd : addI m (n : Int) = m.set n true := by rw [addI, if_pos (by omega), Int.toNat_natCast]
              rw [hadd] at HN
              have hne : ((n : Int) != -1) = true := bne_iff_ne.2 (by omega)
              have n0 : (0 : Int) ≤ (n : Int) := by omega
              have n60 : (n : Int) < 60 := by omega
              obtain ⟨p, hp⟩ : ∃ p, m[n]? = some p := ⟨m[n]'(by rw [x1.n]; omega), by simp⟩
              clear hadd hG r1 r2 r0 r0' r3 r4 r5 hD
              go_wp2_with (first | (go_at_call 101; refine hGX.mono ?_; rintro e w2 ⟨rfl, hb2⟩; have v1 := x1.below hb2; have cp := v1.cell hp; have zp := v1.z n))
              go_roundw
              case rel =>
                refine ⟨k + 1, m.set n true, by omega, rfl, HN, v1.put n true, (x2.below hb2).other (by simp) _, ?_, ?_, ?_, ?_, ?_, (hBX.trans (hb2.mono hBX.size)).setCell (by simp) _⟩
                · rw [cell_put_other _ (by simp)]; exact cell_later hb2 x0
                · rw [cell_put_other _ (by simp)]; exact cell_later hb2 x0'
                · rw [cell_put_other _ (by simp)]; exact cell_later hb2 x3
                · rw [cell_put_other _ (by simp)]; exact cell_later hb2 x4
                · rw [cell_put_other _ (by simp)]; exact cell_later hb2 x5
              case measure => (simp [intOf] <;> omega)
      · have hres : res = m := by have h := HE.out; rw [gvsP, if_neg hkj] at h; exact h.symm
        subst hres
        have kj : ¬ (k : Int) < (j : Int) := by omega
        have hld := r1.loadQ
        have hst := storeQ_run r2 r1.n
        have hfin := r2.setRow r1.n
        clear HE
        go_wp2
        exact bodyPost_ret (v := .agg (setC res)) (results_cell_row Tryd.results94 _ _ (w.heap.size + 2) _ _ _ _ rfl hfin.blk Tryd.underlying156 rfl (by rw [setC_size, r1.n]; exact info60)) rfl ⟨rfl, below_setRow hBr (by omega) _⟩
  · have hr : addG l ⟨bth, bpl, ⟨bk, bi, bc⟩, bh⟩ j m = m := by rw [addG, if_neg hk]
    rw [hr]
    have hk' : (bk != 1) = true := by simpa using hk
    have hld := t1.loadQ
    have hst := storeQ_run t2 hm
    have hfin := t2.setRow hm
    clear hr s0
    go_enter Tryd.func94, Tryd.ntmps94
    go_wp2
    exact bodyPost_ret (v := .agg (setC m)) (results_cell_row Tryd.results94 _ _ (w.heap.size + 2) _ _ _ _ rfl hfin.blk Tryd.underlying156 rfl (by rw [setC_size, hm]; exact info60)) rfl ⟨rfl, below_setRow hB1 (by omega) _⟩
end Go.Proofs.YtdfndcbakcmgiabDoor
