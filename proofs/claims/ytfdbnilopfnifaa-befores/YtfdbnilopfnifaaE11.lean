import Derived.Test.YtfdbnilopfnifaaE10
namespace Go.Proofs.Ytfdbnilopfnifaa
open Go.RowKit
attribute [local go_sem ↓] loadS_fold storeS_fold zeroS_fold

def followM (L : List (List Stp)) (sch : ByteArray) (s : MS) (k : Nat) : Option MS :=
  if k < sch.size then
    match stepM L s (byteI sch k - 48) with
    | some s' => followM L sch s' (k + 1)
    | none => none
  else some s
termination_by sch.size - k

theorem followM_end {L : List (List Stp)} {sch : ByteArray} {s : MS} {k : Nat} (h : ¬ k < sch.size) : followM L sch s k = some s := by rw [followM, if_neg h]
theorem followM_no {L : List (List Stp)} {sch : ByteArray} {s : MS} {k : Nat} (h : k < sch.size) (hs : stepM L s (byteI sch k - 48) = none) : followM L sch s k = none := by rw [followM, if_pos h, hs]
theorem followM_go {L : List (List Stp)} {sch : ByteArray} {s s' : MS} {k : Nat} (h : k < sch.size) (hs : stepM L s (byteI sch k - 48) = some s') : followM L sch s k = followM L sch s' (k + 1) := by rw [followM, if_pos h, hs]

def zeroM : MS := firstK false 0
def followV : Option MS → Value
  | some s => .tuple #[.agg s.cells, .bool true]
  | none => .tuple #[.agg zeroM.cells, .bool false]

theorem results_S45 {fn : Func} (h : fn.results = #[.cell 4 95, .tmp 5]) (tmps : Array Value) (w : World) (g : Nat) (s : MS) (v : Value) (hp : tmps.getD 4 undef = .pointer (some ⟨g, 0, none⟩)) (hv : tmps.getD 5 undef = v) (hs : StIn w g s) :
    (results fn tmps).run Try.prog w = .ok (.tuple #[.agg s.cells, v]) w := by
  have hl := loadVar22 hs.blk (MS.cells_size hs.ok)
  have hp' : tmps[4]?.getD undef = .pointer (some ⟨g, 0, none⟩) := by simpa using hp
  have hv' : tmps[5]?.getD undef = v := by simpa using hv
  simp [results, h, hp', hv', asAddr, hl]
theorem StIn.drew {w : World} {g : Nat} {s : MS} (h : StIn w g s) : StIn w.drew g s := ⟨h.blk, h.ok⟩
theorem StIn.alloc {w : World} {g : Nat} {s : MS} (h : StIn w g s) (o : Obj) : StIn (w.alloc o) g s := h.below ((Below.refl _ _).alloc (Nat.le_refl _) o)
theorem StIn.row {w : World} {g g' : Nat} {s : MS} (h : StIn w g s) (hne : g ≠ g') (c : Array Value) : StIn (w.setRow g' c) g s := ⟨by rw [setRow_other _ _ _ _ hne]; exact h.blk, h.ok⟩

theorem wrap48 (n : Nat) (h : n < 256) : IntKind.i64.wrap (IntKind.i64.wrap (n : Int) - 48) = (n : Int) - 48 := by
  have e1 : IntKind.i64.wrap (n : Int) = (n : Int) := by simp [IntKind.wrap, IntKind.signed, IntKind.bits]; omega
  rw [e1]
  simp [IntKind.wrap, IntKind.signed, IntKind.bits]; omega
theorem Move_eq (V : Value) (L : List (List Stp)) (s : MS) (ok : s.Ok) (w : World) (B : Nat) (hp : ProgIn w B V L) (po : PO L) (i j : Int) (h : i = j) :
    Calls Try.prog 84 #[.agg #[V], .agg s.cells, .int .i64 i] w fun e w' => e = .returned (stepV s (stepM L s j)) ∧ Below w.heap.size w w' := by
  subst h; exact Move_any V L s ok w B hp po i

set_option maxRecDepth 100000 in
set_option maxHeartbeats 4000000 in
theorem Follow_any (V : Value) (L : List (List Stp)) (sch : ByteArray) (hs : sch.size ≤ maxLen) (w : World) (B : Nat) (hp : ProgIn w B V L) (po : PO L) :
    Calls Try.prog 80 #[.agg #[V], .string sch] w fun e w' => e = .returned (followV (followM L sch firstM 0)) ∧ Below w.heap.size w w' := by
  unfold maxLen at hs
  have hF := First_any ((w.alloc (.cells #[V] 72)).alloc (.cells zeroS 95))
  generalize hpost : followM L sch firstM 0 = post
  have HPO : Hid (followM L sch firstM 0 = post) := hpost
  clear hpost
  have HP : Hid (ProgIn w B V L) := hp
  have HO : Hid (PO L) := po
  clear hp po
  go_enter Try.func80, Try.ntmps80
  go_wp2_with (first | (go_at_call 105; refine hF.mono ?_; rintro e w1 ⟨rfl, hb⟩; obtain ⟨b0, b1, hB, hs2⟩ := two_new hb; have hstn := storeS_run (s := firstM) (heap_alloc_new w1 (.cells zeroS 95)) rfl (firstK_ok _ _ (by omega))))
  have hlt1 : w.heap.size + 2 ≤ w1.heap.size := hs2
  go_loopw [7] (fun i wr => ∃ (k : Nat) (s : MS), k ≤ sch.size ∧ i = .int .i64 k ∧ Hid (followM L sch s k = post) ∧ StIn wr w1.heap.size s ∧ wr.cell? ⟨w.heap.size, 0, none⟩ = some V ∧ wr.heap[w.heap.size + 1]? = some (.cells zeroS 95 (0, 0)) ∧ Below w.heap.size w wr) (fun i _ => sch.size - (intOf i).toNat)
  case atStart =>
    have ha := (Below.refl w1.heap.size w1).alloc (Nat.le_refl _) (.cells zeroS 95)
    refine ⟨0, firstM, by omega, rfl, HPO, StIn.setRow (heap_alloc_new w1 _) (firstK_ok _ _ (by omega)), ?_, ?_, ?_⟩
    · rw [cell_setRow_other _ _ _ _ (show w.heap.size ≠ w1.heap.size by omega)]
      exact cell_later ha (cellB b0 rfl)
    · rw [setRow_other _ _ _ _ (by omega), heap_alloc_old _ _ (by omega)]; exact b1
    · exact Below.setRow (hB.alloc hB.size _) hB.size _
  case round =>
    obtain ⟨k, s, hk, rfl, HE, hsr, p0, r1, hBr⟩ := hrel
    have ok := hsr.ok
    clear hstn hF HPO hb b0 b1 hB
    by_cases hke : k < sch.size
    · have hb8 : sch[k].toNat < 256 := UInt8.toNat_lt sch[k]
      have hb0 : (0 : Int) ≤ (sch[k].toNat : Int) := Int.natCast_nonneg _
      have k0 : (0 : Int) ≤ (k : Int) := by omega
      have kl : (k : Int) < (sch.size : Int) := by omega
      have HW : Hid (IntKind.i64.wrap (IntKind.i64.wrap (sch[k].toNat : Int) - 48) = (sch[k].toNat : Int) - 48) := wrap48 _ hb8
      have hM := fun w' hw => Move_eq V L s ok w' B ((HP.out.below hBr).below (w' := w') hw) HO.out _ _ HW.out
      have hby : (sch[k].toNat : Int) = byteI sch k := byteI_in hke
      obtain ⟨o, ho⟩ : ∃ o, stepM L s ((sch[k].toNat : Int) - 48) = o := ⟨_, rfl⟩
      have HO1 : Hid (stepM L s (byteI sch k - 48) = o) := by rw [← hby]; exact ho
      have hok' : ∀ s', o = some s' → s'.Ok := fun s' e => stepM_ok ok (ho.trans e)
      obtain ⟨s', b, hV, hs'ok, hbt, hbf⟩ : ∃ (s' : MS) (b : Bool), stepV s o = .tuple #[.agg s'.cells, .bool b] ∧ s'.Ok ∧ (b = true → o = some s') ∧ (b = false → o = none) := by
        cases o with
        | none => exact ⟨s, false, rfl, ok, fun h => by simp at h, fun _ => rfl⟩
        | some s' => exact ⟨s', true, rfl, hok' _ rfl, fun _ => rfl, fun h => by simp at h⟩
      have HB : Hid ((b = true → o = some s') ∧ (b = false → o = none)) := ⟨hbt, hbf⟩
      clear hbt hbf
      simp only [ho, hV] at hM
      clear hV hok' ho hby
      have hld := hsr.loadS
      go_wp2
      go_cut [8, 9] (fun p o wc => ∃ q, p = .pointer (some ⟨q, 0, none⟩) ∧ o = .bool b ∧ StIn wc q s' ∧ Below wr.heap.size wr wc ∧ wr.heap.size ≤ q)
      case first =>
        go_region_held3 (fun w' => w'.cell? ⟨w.heap.size, 0, none⟩ = some V ∧ (loadS (.pointer (some ⟨w1.heap.size, 0, none⟩))).run Try.prog w' = .ok (.agg s.cells) w')
          (first | (refine ⟨cell_later ?_ p0, (hsr.below ?_).loadS⟩ <;> first | exact Below.refl _ _ | exact hx1 | exact ((Below.refl _ _).alloc (Nat.le_refl _) _).drew | exact hx1.drew | exact (hx1.alloc hx1.size _).drew | exact (Below.refl _ _).drew | exact hx1.alloc hx1.size _ | exact (Below.refl _ _).alloc (Nat.le_refl _) _ | exact Below.setRow hx1 (Nat.le_refl _) _ | exact Below.setRow (hx1.alloc hx1.size _) hx1.size _) | go_keep)
          (first | (go_at_call 84; refine (hM _ (by first | exact Below.refl _ _ | exact (Below.refl _ _).drew | exact (Below.refl _ _).alloc (Nat.le_refl _) _ | exact ((Below.refl _ _).alloc (Nat.le_refl _) _).drew)).mono ?_; rintro e w2 ⟨he, hbb⟩; subst he; have hx1 : Below wr.heap.size wr w2 := (by first | exact hbb | exact below_of_drew hbb | exact ((Below.refl _ _).alloc (Nat.le_refl _) _).trans (hbb.mono (by simp)) | exact ((Below.refl _ _).alloc (Nat.le_refl _) _).drew.trans (hbb.mono (by simp))); have hstB := storeS_run (s := s') (heap_alloc_new w2 (.cells zeroS 95)) rfl hs'ok; (first | (have hbc : Below (wr.alloc (.cells zeroS 95)).heap.size (wr.alloc (.cells zeroS 95)) w2 := (by first | exact hbb | exact below_of_drew hbb); have hblk := (hbc.block wr.heap.size (by simp)).trans (heap_alloc_new wr _); have hstA := storeS_run (s := s') hblk rfl hs'ok) | skip)))
        all_goals
          go_wp2_with fail
          go_meet
          case rel =>
            first
              | exact ⟨_, rfl, rfl, StIn.setRow (heap_alloc_new w2 _) hs'ok, Below.setRow (hx1.alloc hx1.size _) hx1.size _, hx1.size⟩
              | exact ⟨_, rfl, rfl, StIn.setRow hblk hs'ok, Below.setRow hx1 (Nat.le_refl _) _, Nat.le_refl _⟩
      case rest =>
        obtain ⟨q, rfl, rfl, hsq, hBc, hqr⟩ := hcut
        have hs6 := hsr.below hBc
        have r1c := (hBc.block (w.heap.size + 1) (Array.getElem?_eq_some_iff.1 r1).1).trans r1
        have p0c := cell_later hBc p0
        have hBw := hBr.trans (hBc.mono hBr.size)
        have hl6 := hsr.lt
        clear hM hld HW hb8 hb0
        cases b with
        | false =>
          have ho1 := HB.out.2 rfl
          have hpo : post = none := by rw [← HE.out, followM_no hke (by rw [HO1.out]; exact ho1)]
          have hst := storeS_run (s := firstK false 0) r1c rfl (firstK_ok _ _ (by omega))
          have hfin := StIn.setRow (s := firstK false 0) r1c (firstK_ok _ _ (by omega))
          rw [zero_firstK] at hst hfin
          subst hpo
          clear ho1
          go_wp2
          exact bodyPost_ret (v := followV none) (results_S45 (s := zeroM) Try.results80 _ _ (w.heap.size + 1) _ rfl rfl hfin) rfl ⟨rfl, Below.setRow hBw (by omega) _⟩
        | true =>
          have HE2 : Hid (followM L sch s' (k + 1) = post) := by rw [← HE.out]; exact (followM_go hke (by rw [HO1.out]; exact HB.out.1 rfl)).symm
          have hld2 := hsq.loadS
          have hst := storeS_run hs6.blk (MS.cells_size ok) hs'ok
          clear HB HO1 HE
          go_wp2
          go_roundw
          case rel =>
            refine ⟨k + 1, s', by omega, rfl, HE2, StIn.setRow hs6.blk hs'ok, ?_, ?_, Below.setRow hBw (by omega) _⟩
            · rw [cell_setRow_other _ _ _ _ (show w.heap.size ≠ w1.heap.size by omega)]; exact p0c
            · rw [setRow_other _ _ _ _ (by omega)]; exact r1c
          case measure => simp [intOf]; omega
    · have hke' : k = sch.size := by omega
      have hpo : post = some s := by rw [← HE.out, followM_end hke]
      subst hpo
      have hld := hsr.loadS
      have hst := storeS_run r1 rfl ok
      have hfin := StIn.setRow r1 ok
      have hkf : ¬ ((k : Int) < (sch.size : Int)) := by omega
      clear hke' HE
      go_wp2
      exact bodyPost_ret (v := followV (some s)) (results_S45 (s := s) Try.results80 _ _ (w.heap.size + 1) _ rfl rfl hfin) rfl ⟨rfl, Below.setRow hBr (by omega) _⟩
end Go.Proofs.Ytfdbnilopfnifaa
