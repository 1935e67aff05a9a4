import Derived.Test.YtdfndcbakcmgiabDoorE8
namespace Go.Proofs.YtdfndcbakcmgiabDoor
open Go.RowKit
attribute [local go_sem ↓] loadS_fold storeS_fold zeroS_fold

/-- A state of which the owners of the first k locks are set to nobody. -/
def firstK (b : Bool) (k : Nat) : MS := ⟨[b, false, false, false, false], [0, 0, 0, 0, 0], List.replicate k none ++ List.replicate (6 - k) (some 0), [false, false, false, false, false, false]⟩
def firstM : MS := firstK true 6
theorem firstK_ok (b : Bool) (k : Nat) (h : k ≤ 6) : (firstK b k).Ok := ⟨rfl, rfl, by simp [firstK]; omega, rfl⟩
theorem zero_firstK : (firstK false 0).cells = zeroS := rfl
theorem firstK_next (k : Nat) (h : k < 6) : { firstK true k with ow := (firstK true k).ow.set k none } = firstK true (k + 1) := by
  have : 6 - k = (6 - (k + 1)) + 1 := by omega
  simp only [firstK, MS.mk.injEq, true_and, and_true]
  rw [List.set_append, if_neg (by simp), this, List.replicate_succ, List.replicate_succ']
  simp

set_option maxRecDepth 100000 in
set_option maxHeartbeats 2000000 in
theorem First_any (w : World) : Calls Tryd.prog 36 #[] w fun e w' => e = .returned (.agg firstM.cells) ∧ Below w.heap.size w w' := by
  have h1 : ((w.alloc (.cells zeroS 79)).alloc (.cells zeroS 79)).heap[w.heap.size + 1]? = some (.cells zeroS 79) := heap_alloc2_new _ _ _
  have h0 : ((w.alloc (.cells zeroS 79)).alloc (.cells zeroS 79)).heap[w.heap.size]? = some (.cells zeroS 79) := heap_alloc2_old _ _ _
  have hst := storeS_run (s := firstK false 0) h1 rfl (firstK_ok _ _ (by omega))
  rw [zero_firstK] at hst
  have hs1 : StIn (((w.alloc (.cells zeroS 79)).alloc (.cells zeroS 79)).setRow (w.heap.size + 1) zeroS) (w.heap.size + 1) (firstK false 0) := StIn.setRow (s := firstK false 0) h1 (firstK_ok _ _ (by omega))
  have c0 := hs1.st (t := 0) (b := false) rfl
  have z0 := hs1.z 0
  have hs2 := hs1.putSt (t := 0) (by omega) true
  go_enter Tryd.func36, Tryd.ntmps36
  go_wp2
  go_loopw [2] (fun i wr => ∃ k : Nat, k ≤ 6 ∧ i = .int .i64 k ∧ StIn wr (w.heap.size + 1) (firstK true k) ∧ wr.heap[w.heap.size]? = some (.cells zeroS 79 (0, 0)) ∧ Below w.heap.size w wr) (fun i _ => 6 - (intOf i).toNat)
  case atStart =>
    refine ⟨0, by omega, rfl, hs2, ?_, ?_⟩
    · rw [heap_setCell_other _ _ _ _ (by simp), setRow_other _ _ _ _ (by omega)]; exact h0
    · exact (Below.setRow (two_new (Below.refl _ _)).2.2.1 (by omega) _).setCell (by simp) _
  case round =>
    obtain ⟨k, hk, rfl, hs, hr, hB⟩ := hrel
    clear hst hs1 hs2 c0 z0 h1 h0
    by_cases hk6 : k = 6
    · subst hk6
      have hld := hs.loadS
      have hs' := storeS_run (s := firstK true 6) hr rfl (firstK_ok _ _ (by omega))
      have hfin := StIn.setRow hr (firstK_ok true 6 (by omega))
      go_wp2
      exact bodyPost_ret (v := .agg firstM.cells) (results_cell_row Tryd.results36 _ _ w.heap.size _ _ _ _ rfl hfin.blk Tryd.underlying79 rfl (by rw [show firstM.cells.size = 22 from MS.cells_size (firstK_ok true 6 (by omega))]; exact info22)) rfl ⟨rfl, Below.setRow hB (by omega) _⟩
    · have hk' : k < 6 := by omega
      have k0 : (0 : Int) ≤ (k : Int) := by omega
      have k6 : (k : Int) < 6 := by omega
      have c1 := hs.ow (t := k) (o := some 0) (by
        have : 6 - k = (6 - (k + 1)) + 1 := by omega
        simp only [firstK]
        rw [List.getElem?_append_right (by simp), this, List.replicate_succ]; simp)
      have z1 := hs.z (10 + k)
      have hs' := hs.putOw hk' none (-1) rfl
      rw [firstK_next k hk'] at hs'
      go_wp2
      go_roundw
      case rel => exact ⟨k + 1, by omega, rfl, hs', by rw [heap_setCell_other _ _ _ _ (by simp)]; exact hr, hB.setCell (by simp) _⟩
      case measure => simp [intOf]; omega

/-- What is known of a program's threads. -/
structure PO (L : List (List Stp)) : Prop where
  l5 : L.length ≤ 5
  sok : ∀ l ∈ L, ∀ x ∈ l, SOk L.length x
  l12 : ∀ l ∈ L, l.length ≤ 12

def moveM (L : List (List Stp)) (s : MS) (t : Nat) : Option MS :=
  if (lookM L s t).1 = 1 then (L[t]?.getD [])[s.pl[t]?.getD 0]?.map fun x => moveStp L s t (s.pl[t]?.getD 0) x else none
/-- A move of the thread with any number. -/
def stepM (L : List (List Stp)) (s : MS) (i : Int) : Option MS := if 0 ≤ i ∧ i < L.length then moveM L s i.toNat else none
theorem stepM_ok {L : List (List Stp)} {s s' : MS} {i : Int} (ok : s.Ok) (h : stepM L s i = some s') : s'.Ok := by
  unfold stepM moveM at h
  split at h
  · split at h
    · simp only [Option.map_eq_some_iff] at h
      obtain ⟨x, _, rfl⟩ := h
      exact moveStp_ok _ _ ok _ _ _
    · simp at h
  · simp at h
def stepV (s : MS) : Option MS → Value
  | some s' => moveV s' true
  | none => moveV s false

theorem lookStp_one {L : List (List Stp)} {s : MS} {t : Nat} (h : (lookM L s t).1 = 1) : ∃ x, (L[t]?.getD [])[s.pl[t]?.getD 0]? = some x := by
  unfold lookM at h
  split at h
  · split at h
    · simp at h
    · exact ⟨_, by assumption⟩
  · simp at h

theorem Move_any (V : Value) (L : List (List Stp)) (s : MS) (ok : s.Ok) (w : World) (B : Nat) (hp : ProgIn w B V L) (po : PO L) (i : Int) :
    Calls Tryd.prog 44 #[.agg #[V], .agg s.cells, .int .i64 i] w fun e w' => e = .returned (stepV s (stepM L s i)) ∧ Below w.heap.size w w' := by
  have hp3 : ProgIn ((boxes w V s).alloc (.cells zeroS 79)) B V L := ((hp.alloc (.cells #[V] 60)).alloc (.cells s.cells 79)).alloc (.cells zeroS 79)
  by_cases hi : 0 ≤ i ∧ i < L.length
  · obtain ⟨t, rfl⟩ : ∃ t : Nat, i = t := ⟨i.toNat, by omega⟩
    have ht : t < L.length := by omega
    have hlt : L[t]? = some L[t] := by simp [ht]
    obtain ⟨n, hn⟩ : ∃ n, s.pl[t]? = some n := ⟨s.pl[t]'(by rw [ok.n2]; have := po.l5; omega), by simp⟩
    by_cases hl : (lookM L s t).1 = 1
    · obtain ⟨x, hx⟩ := lookStp_one hl
      rw [hlt, hn, Option.getD_some, Option.getD_some] at hx
      have e : stepM L s t = some (moveStp L s t n x) := by
        rw [stepM, if_pos hi, Int.toNat_natCast, moveM, if_pos hl, hlt, hn, Option.getD_some, Option.getD_some, hx]; rfl
      rw [e]
      have hn12 : n ≤ 12 := by
        have h1 := (List.getElem?_eq_some_iff.1 hx).1
        have h2 := po.l12 _ (List.getElem_mem ht)
        omega
      exact Move_at V L s ok w B hp po.l5 po.sok t n ht _ rfl hn x hx hl hn12
    · have e : stepM L s t = none := by rw [stepM, if_pos hi, Int.toNat_natCast, moveM, if_neg hl]
      rw [e]
      exact Move_no V s ok w _ _ _ hl (fun w' hw => Look_in V L s ok w' B (hp3.below hw) po.l5 po.sok t ht _ rfl)
  · have e : stepM L s i = none := by rw [stepM, if_neg hi]
    rw [e]
    exact Move_no V s ok w i 0 (-1) (by decide) (fun w' hw => Look_out V L s w' B (hp3.below hw) i (by omega))
end Go.Proofs.YtdfndcbakcmgiabDoor
namespace Go.Proofs.YtdfndcbakcmgiabDoor
open Go.RowKit
attribute [local go_sem ↓] loadS_fold storeS_fold zeroS_fold

def followM (L : List (List Stp)) (sch : ByteArray) (s : MS) (k : Nat) : Option MS :=
  if k < sch.size then
    match stepM L s (byteI sch k - 48) with
    | some s' => followM L sch s' (k + 1)
    | none => none
  else some s
termination_by sch.size - k

theorem followM_end {L : List (List Stp)} {sch : ByteArray} {s : MS} {k : Nat} (h : ¬ k < sch.size) : followM L sch s k = some s := by rw [followM, if_neg h]
theorem followM_no {L : List (List Stp)} {sch : ByteArray} {s : MS} {k : Nat} (h : k < sch.size) (hs : stepM L s (byteI sch k - 48) = none) : followM L sch s k = none := by rw [followM, if_pos h, hs]
theorem followM_go {L : List (List Stp)} {sch : ByteArray} {s s' : MS} {k : Nat} (h : k < sch.size) (hs : stepM L s (byteI sch k - 48) = some s') : followM L sch s k = followM L sch s' (k + 1) := by rw [followM, if_pos h, hs]

def zeroM : MS := firstK false 0
def followV : Option MS → Value
  | some s => .tuple #[.agg s.cells, .bool true]
  | none => .tuple #[.agg zeroM.cells, .bool false]

theorem results_S45 {fn : Func} (h : fn.results = #[.cell 4 79, .tmp 5]) (tmps : Array Value) (w : World) (g : Nat) (s : MS) (v : Value) (hp : tmps.getD 4 undef = .pointer (some ⟨g, 0, none⟩)) (hv : tmps.getD 5 undef = v) (hs : StIn w g s) :
    (results fn tmps).run Tryd.prog w = .ok (.tuple #[.agg s.cells, v]) w := by
  have hl := loadVar22 hs.blk (MS.cells_size hs.ok)
  have hp' : tmps[4]?.getD undef = .pointer (some ⟨g, 0, none⟩) := by simpa using hp
  have hv' : tmps[5]?.getD undef = v := by simpa using hv
  simp [results, h, hp', hv', asAddr, hl]
theorem StIn.drew {w : World} {g : Nat} {s : MS} (h : StIn w g s) : StIn w.drew g s := ⟨h.blk, h.ok⟩
theorem StIn.alloc {w : World} {g : Nat} {s : MS} (h : StIn w g s) (o : Obj) : StIn (w.alloc o) g s := h.below ((Below.refl _ _).alloc (Nat.le_refl _) o)
theorem StIn.row {w : World} {g g' : Nat} {s : MS} (h : StIn w g s) (hne : g ≠ g') (c : Array Value) : StIn (w.setRow g' c) g s := ⟨by rw [setRow_other _ _ _ _ hne]; exact h.blk, h.ok⟩

theorem wrap48 (n : Nat) (h : n < 256) : IntKind.i64.wrap (IntKind.i64.wrap (n : Int) - 48) = (n : Int) - 48 := by
  have e1 : IntKind.i64.wrap (n : Int) = (n : Int) := by simp [IntKind.wrap, IntKind.signed, IntKind.bits]; omega
  rw [e1]
  simp [IntKind.wrap, IntKind.signed, IntKind.bits]; omega
theorem Move_eq (V : Value) (L : List (List Stp)) (s : MS) (ok : s.Ok) (w : World) (B : Nat) (hp : ProgIn w B V L) (po : PO L) (i j : Int) (h : i = j) :
    Calls Tryd.prog 44 #[.agg #[V], .agg s.cells, .int .i64 i] w fun e w' => e = .returned (stepV s (stepM L s j)) ∧ Below w.heap.size w w' := by
  subst h; exact Move_any V L s ok w B hp po i

set_option maxRecDepth 100000 in
set_option maxHeartbeats 4000000 in
theorem Follow_any (V : Value) (L : List (List Stp)) (sch : ByteArray) (hs : sch.size ≤ maxLen) (w : World) (B : Nat) (hp : ProgIn w B V L) (po : PO L) :
    Calls Tryd.prog 40 #[.agg #[V], .string sch] w fun e w' => e = .returned (followV (followM L sch firstM 0)) ∧ Below w.heap.size w w' := by
  unfold maxLen at hs
  have hF := First_any ((w.alloc (.cells #[V] 60)).alloc (.cells zeroS 79))
  generalize hpost : followM L sch firstM 0 = post
  have HPO : Hid (followM L sch firstM 0 = post) := hpost
  clear hpost
  have HP : Hid (ProgIn w B V L) := hp
  have HO : Hid (PO L) := po
  clear hp po
  go_enter Tryd.func40, Tryd.ntmps40
  go_wp2_with (first | (go_at_call 36; refine hF.mono ?_; rintro e w1 ⟨rfl, hb⟩; obtain ⟨b0, b1, hB, hs2⟩ := two_new hb; have hstn := storeS_run (s := firstM) (heap_alloc_new w1 (.cells zeroS 79)) rfl (firstK_ok _ _ (by omega))))
  have hlt1 : w.heap.size + 2 ≤ w1.heap.size := hs2
  go_loopw [7] (fun i wr => ∃ (k : Nat) (s : MS), k ≤ sch.size ∧ i = .int .i64 k ∧ Hid (followM L sch s k = post) ∧ StIn wr w1.heap.size s ∧ wr.cell? ⟨w.heap.size, 0, none⟩ = some V ∧ wr.heap[w.heap.size + 1]? = some (.cells zeroS 79 (0, 0)) ∧ Below w.heap.size w wr) (fun i _ => sch.size - (intOf i).toNat)
  case atStart =>
    have ha := (Below.refl w1.heap.size w1).alloc (Nat.le_refl _) (.cells zeroS 79)
    refine ⟨0, firstM, by omega, rfl, HPO, StIn.setRow (heap_alloc_new w1 _) (firstK_ok _ _ (by omega)), ?_, ?_, ?_⟩
    · rw [cell_setRow_other _ _ _ _ (show w.heap.size ≠ w1.heap.size by omega)]
      exact cell_later ha (cellB b0 rfl)
    · rw [setRow_other _ _ _ _ (by omega), heap_alloc_old _ _ (by omega)]; exact b1
    · exact Below.setRow (hB.alloc hB.size _) hB.size _
  case round =>
    obtain ⟨k, s, hk, rfl, HE, hsr, p0, r1, hBr⟩ := hrel
    have ok := hsr.ok
    clear hstn hF HPO hb b0 b1 hB
    by_cases hke : k < sch.size
    · have hb8 : sch[k].toNat < 256 := UInt8.toNat_lt sch[k]
      have hb0 : (0 : Int) ≤ (sch[k].toNat : Int) := Int.natCast_nonneg _
      have k0 : (0 : Int) ≤ (k : Int) := by omega
      have kl : (k : Int) < (sch.size : Int) := by omega
      have HW : Hid (IntKind.i64.wrap (IntKind.i64.wrap (sch[k].toNat : Int) - 48) = (sch[k].toNat : Int) - 48) := wrap48 _ hb8
      have hM := fun w' hw => Move_eq V L s ok w' B ((HP.out.below hBr).below (w' := w') hw) HO.out _ _ HW.out
      have hby : (sch[k].toNat : Int) = byteI sch k := byteI_in hke
      obtain ⟨o, ho⟩ : ∃ o, stepM L s ((sch[k].toNat : Int) - 48) = o := ⟨_, rfl⟩
      have HO1 : Hid (stepM L s (byteI sch k - 48) = o) := by rw [← hby]; exact ho
      have hok' : ∀ s', o = some s' → s'.Ok := fun s' e => stepM_ok ok (ho.trans e)
      obtain ⟨s', b, hV, hs'ok, hbt, hbf⟩ : ∃ (s' : MS) (b : Bool), stepV s o = .tuple #[.agg s'.cells, .bool b] ∧ s'.Ok ∧ (b = true → o = some s') ∧ (b = false → o = none) := by
        cases o with
        | none => exact ⟨s, false, rfl, ok, fun h => by simp at h, fun _ => rfl⟩
        | some s' => exact ⟨s', true, rfl, hok' _ rfl, fun _ => rfl, fun h => by simp at h⟩
      have HB : Hid ((b = true → o = some s') ∧ (b = false → o = none)) := ⟨hbt, hbf⟩
      clear hbt hbf
      simp only [ho, hV] at hM
      clear hV hok' ho hby
      have hld := hsr.loadS
      go_wp2
      go_cut [8, 9] (fun p o wc => ∃ q, p = .pointer (some ⟨q, 0, none⟩) ∧ o = .bool b ∧ StIn wc q s' ∧ Below wr.heap.size wr wc ∧ wr.heap.size ≤ q)
      case first =>
        go_region_held3 (fun w' => w'.cell? ⟨w.heap.size, 0, none⟩ = some V ∧ (loadS (.pointer (some ⟨w1.heap.size, 0, none⟩))).run Tryd.prog w' = .ok (.agg s.cells) w')
          (first | (refine ⟨cell_later ?_ p0, (hsr.below ?_).loadS⟩ <;> first | exact Below.refl _ _ | exact hx1 | exact ((Below.refl _ _).alloc (Nat.le_refl _) _).drew | exact hx1.drew | exact (hx1.alloc hx1.size _).drew | exact (Below.refl _ _).drew | exact hx1.alloc hx1.size _ | exact (Below.refl _ _).alloc (Nat.le_refl _) _ | exact Below.setRow hx1 (Nat.le_refl _) _ | exact Below.setRow (hx1.alloc hx1.size _) hx1.size _) | go_keep)
          (first | (go_at_call 44; refine (hM _ (by first | exact Below.refl _ _ | exact (Below.refl _ _).drew | exact (Below.refl _ _).alloc (Nat.le_refl _) _ | exact ((Below.refl _ _).alloc (Nat.le_refl _) _).drew)).mono ?_; rintro e w2 ⟨he, hbb⟩; subst he; have hx1 : Below wr.heap.size wr w2 := (by first | exact hbb | exact below_of_drew hbb | exact ((Below.refl _ _).alloc (Nat.le_refl _) _).trans (hbb.mono (by simp)) | exact ((Below.refl _ _).alloc (Nat.le_refl _) _).drew.trans (hbb.mono (by simp))); have hstB := storeS_run (s := s') (heap_alloc_new w2 (.cells zeroS 79)) rfl hs'ok; (first | (have hbc : Below (wr.alloc (.cells zeroS 79)).heap.size (wr.alloc (.cells zeroS 79)) w2 := (by first | exact hbb | exact below_of_drew hbb); have hblk := (hbc.block wr.heap.size (by simp)).trans (heap_alloc_new wr _); have hstA := storeS_run (s := s') hblk rfl hs'ok) | skip)))
        all_goals
          go_wp2_with fail
          go_meet
          case rel =>
            first
              | exact ⟨_, rfl, rfl, StIn.setRow (heap_alloc_new w2 _) hs'ok, Below.setRow (hx1.alloc hx1.size _) hx1.size _, hx1.size⟩
              | exact ⟨_, rfl, rfl, StIn.setRow hblk hs'ok, Below.setRow hx1 (Nat.le_refl _) _, Nat.le_refl _⟩
      case rest =>
        obtain ⟨q, rfl, rfl, hsq, hBc, hqr⟩ := hcut
        have hs6 := hsr.below hBc
        have r1c := (hBc.block (w.heap.size + 1) (Array.getElem?_eq_some_iff.1 r1).1).trans r1
        have p0c := cell_later hBc p0
        have hBw := hBr.trans (hBc.mono hBr.size)
        have hl6 := hsr.lt
        clear hM hld HW hb8 hb0
        cases b with
        | false =>
          have ho1 := HB.out.2 rfl
          have hpo : post = none := by rw [← HE.out, followM_no hke (by rw [HO1.out]; exact ho1)]
          have hst := storeS_run (s := firstK false 0) r1c rfl (firstK_ok _ _ (by omega))
          have hfin := StIn.setRow (s := firstK false 0) r1c (firstK_ok _ _ (by omega))
          rw [zero_firstK] at hst hfin
          subst hpo
          clear ho1
          go_wp2
          exact bodyPost_ret (v := followV none) (results_S45 (s := zeroM) Tryd.results40 _ _ (w.heap.size + 1) _ rfl rfl hfin) rfl ⟨rfl, Below.setRow hBw (by omega) _⟩
        | true =>
          have HE2 : Hid (followM L sch s' (k + 1) = post) := by rw [← HE.out]; exact (followM_go hke (by rw [HO1.out]; exact HB.out.1 rfl)).symm
          have hld2 := hsq.loadS
          have hst := storeS_run hs6.blk (MS.cells_size ok) hs'ok
          clear HB HO1 HE
          go_wp2
          go_roundw
          case rel =>
            refine ⟨k + 1, s', by omega, rfl, HE2, StIn.setRow hs6.blk hs'ok, ?_, ?_, Below.setRow hBw (by omega) _⟩
            · rw [cell_setRow_other _ _ _ _ (show w.heap.size ≠ w1.heap.size by omega)]; exact p0c
            · rw [setRow_other _ _ _ _ (by omega)]; exact r1c
          case measure => simp [intOf]; omega
    · have hke' : k = sch.size := by omega
      have hpo : post = some s := by rw [← HE.out, followM_end hke]
      subst hpo
      have hld := hsr.loadS
      have hst := storeS_run r1 rfl ok
      have hfin := StIn.setRow r1 ok
      have hkf : ¬ ((k : Int) < (sch.size : Int)) := by omega
      clear hke' HE
      go_wp2
      exact bodyPost_ret (v := followV (some s)) (results_S45 (s := s) Tryd.results40 _ _ (w.heap.size + 1) _ rfl rfl hfin) rfl ⟨rfl, Below.setRow hBr (by omega) _⟩
end Go.Proofs.YtdfndcbakcmgiabDoor
