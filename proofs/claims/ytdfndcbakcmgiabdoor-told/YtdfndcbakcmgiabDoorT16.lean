import Derived.Test.YtdfndcbakcmgiabDoorT14
namespace Go.Proofs.YtdfndcbakcmgiabDoor
open Go.RowKit
attribute [local go_sem ↓] loadQ_fold storeQ_fold zeroQ_fold eqQ_fold

def intV (l : List Nat) : List Value := l.map fun (n : Nat) => Value.int .i64 (n : Int)

set_option maxRecDepth 100000 in
set_option maxHeartbeats 4000000 in
theorem list_any (g c n : Nat) (Wn : Value) (m : List Bool) (hm : m.length = 60) (hn : n ≤ 60) (w : World) :
    Calls Tryd.prog 83 #[.agg #[.slice (some ⟨g, 0, none⟩) n c, Wn], .agg (setC m)] w fun e w' => ∃ g' c', e = .returned (.slice (some ⟨g', 0, none⟩) (listB m n).length c') ∧ Below w.heap.size w w' ∧ w'.ownsRow (w.heap.size + 2) 3 1 (.slice (some ⟨g', 0, none⟩) (listB m n).length c') (listB m n).length (intV (listB m n)) := by
  have s1 : SetIn (qBox (trBox w g n c Wn) m) (w.heap.size + 1) m := ⟨heap_alloc2_new _ _ _, hm⟩
  have T0 : TrIn w (qBox (trBox w g n c Wn) m) g n c Wn := (TrIn.new w g n c Wn).below ((Below.refl _ _).alloc (Nat.le_refl _) _)
  have hbs : (qBox (trBox w g n c Wn) m).heap.size = w.heap.size + 2 := by simp
  have hB0 : Below w.heap.size w (qBox (trBox w g n c Wn) m) := (two_new (Below.refl _ _)).2.2.1
  go_enter Tryd.func83, Tryd.ntmps83
  go_wp2
  go_loopw [5, 6] (fun v i wr => ∃ t g' cap : Nat, t ≤ n ∧ i = .int .i64 t ∧ v = .slice (some ⟨g', 0, none⟩) (listB m t).length cap ∧ wr.ownsRow (w.heap.size + 2) 3 1 (.slice (some ⟨g', 0, none⟩) (listB m t).length cap) (listB m t).length (intV (listB m t)) ∧ Below (w.heap.size + 2) (qBox (trBox w g n c Wn) m) wr) (fun _ i _ => n - (intOf i).toNat)
  case atStart =>
    refine ⟨0, w.heap.size + 2, 0, by omega, rfl, rfl, ?_, ?_⟩
    · have h := World.ownsRow_lit (qBox (trBox w g n c Wn) m) (base := w.heap.size + 2) (e := 3) (size := 1) #[] 0 (by simp) (Nat.zero_le _) rfl
      simpa [listB, intV] using h
    · rw [← hbs]; exact (Below.refl _ _).alloc (Nat.le_refl _) _
  case round =>
    obtain ⟨t, g', cap, ht, rfl, rfl, hown, hB⟩ := hrel
    have hB' : Below (qBox (trBox w g n c Wn) m).heap.size (qBox (trBox w g n c Wn) m) wr := by rw [hbs]; exact hB
    have hsz : w.heap.size + 2 ≤ wr.heap.size := by rw [← hbs]; exact hB'.size
    have r1 := s1.below hB'
    have e0 := (T0.below hB').c0
    have hgl := hown.lt g' rfl
    by_cases htn : t < n
    · obtain ⟨q, hq⟩ : ∃ q, m[t]? = some q := ⟨m[t]'(by omega), by simp⟩
      have cq := r1.cell hq
      have t0 : (0 : Int) ≤ (t : Int) := by omega
      have tn : (t : Int) < (n : Int) := by omega
      have t60 : (t : Int) < 60 := by omega
      have hlb := listB_len m t
      cases q with
      | false =>
        have HL1 : Hid (listB m (t + 1) = listB m t) := listB_no (by rw [hq]; rfl)
        clear hq
        go_wp2
        go_roundw
        case rel => exact ⟨t + 1, g', cap, by omega, rfl, by rw [HL1.out], by rw [HL1.out]; exact hown, hB⟩
        case measure => (simp [intOf] <;> omega)
      | true =>
        have HL1 : Hid (listB m (t + 1) = listB m t ++ [t]) := listB_yes (by rw [hq]; rfl)
        clear hq
        go_wp2_with (at_builtin; go_loud (refine wpList_appendLit _ rfl _ _ 22 rfl (w.heap.size + 2) 3 (.int .i64 0) 1 8 Tryd.underlying22 infoInt rfl (by decide) _ _ _ rfl hown _ _ rfl rfl rfl ?c2 ?c3 ?c4 ?c5 ?_))
        case c2 => rfl
        case c3 => omega
        case c4 => omega
        case c5 => exact hsz
        intro v' w5 ho5 hg5 hf5 hn5
        have hB5 := below_grown (hB.alloc hsz _) (by simp; omega) hg5 (fun k hk => by simp [Value.ownBlock] at hk; omega)
        obtain ⟨g2, cap2, hv5⟩ := row_form ho5 hn5
        subst hv5
        clear hg5 hf5 hn5 hown
        go_wp2
        go_roundw
        case rel =>
          refine ⟨t + 1, g2, cap2, by omega, rfl, by rw [HL1.out]; simp, ?_, hB5⟩
          rw [HL1.out]
          simpa [intV] using ho5
        case measure => (simp [intOf] <;> omega)
    · have hte : t = n := by omega
      have tn : ¬ (t : Int) < (n : Int) := by omega
      subst hte
      go_wp2
      go_ret
      exact ⟨g', cap, rfl, hB0.trans (hB'.mono hB0.size), hown⟩
end Go.Proofs.YtdfndcbakcmgiabDoor
namespace Go.Proofs.YtdfndcbakcmgiabDoor
open Go.RowKit
attribute [local go_sem ↓] loadQ_fold storeQ_fold zeroQ_fold eqQ_fold

theorem foldSet_iff : ∀ (l : List Int) (m : List Bool) (x : Nat), (l.foldl (fun m y => m.set y.toNat true) m)[x]? = some true ↔ (m[x]? = some true ∨ (x < m.length ∧ ∃ y ∈ l, y.toNat = x))
  | [], m, x => by simp
  | y :: l, m, x => by
    rw [List.foldl_cons, foldSet_iff l, List.getElem?_set, List.length_set]
    constructor
    · rintro (h | ⟨h1, z, hz, e⟩)
      · split at h
        · rename_i e
          subst e
          split at h
          · rename_i hl
            exact .inr ⟨hl, y, List.mem_cons_self .., rfl⟩
          · simp at h
        · exact .inl h
      · exact .inr ⟨h1, z, List.mem_cons_of_mem _ hz, e⟩
    · rintro (h | ⟨h1, z, hz, e⟩)
      · left
        split
        · rename_i e
          subst e
          rw [if_pos (List.getElem?_eq_some_iff.1 h).1]
        · exact h
      · rcases List.mem_cons.1 hz with rfl | hz
        · left
          rw [if_pos e, if_pos (by omega)]
        · exact .inr ⟨h1, z, hz, e⟩
theorem markE_iff (n : Nat) (l : List Int) (x : Nat) : (markE n l)[x]? = some true ↔ (x < n ∧ ∃ y ∈ l, y.toNat = x) := by
  rw [markE, foldSet_iff, List.length_replicate]
  constructor
  · rintro (h | h)
    · rw [List.getElem?_replicate] at h
      split at h <;> simp at h
    · exact h
  · exact .inr
theorem markE_inN {n : Nat} {l : List Int} (h : inR n l) : InN n (markE 60 l) := fun j hj => by
  obtain ⟨_, y, hy, e⟩ := (markE_iff 60 l j).1 hj
  have := h y hy
  omega

set_option maxRecDepth 100000 in
set_option maxHeartbeats 4000000 in
theorem CloseT_any (g c : Nat) (Wn : Value) {n : Nat} (log : List Ev) (hL : ∀ v ∈ log, EvOk n v) (a : Option Addr) (ce : Nat) (ev : List Int) (hll : ev.length ≤ maxLen) (hin : inR log.length ev) (w : World) (hE : MvsAt w g (log.map mvE)) (hA : IntsAt w a ev) (hl : log.length ≤ 60) :
    Calls Tryd.prog 67 #[.agg #[.slice (some ⟨g, 0, none⟩) log.length c, Wn], .slice a ev.length ce] w fun e w' => ∃ g' c' m, e = .returned (.slice (some ⟨g', 0, none⟩) (listB m log.length).length c') ∧ Below w.heap.size w w' ∧ w'.ownsRow w.heap.size 3 1 (.slice (some ⟨g', 0, none⟩) (listB m log.length).length c') (listB m log.length).length (intV (listB m log.length)) ∧ m.length = 60 ∧ MidS log (markE 60 ev) m ∧ ClosedS log m := by
  unfold maxLen at hll
  have hz60 : zeroM60.length = 60 := rfl
  have s1 : SetIn (qBox (trBox w g log.length c Wn) zeroM60) (w.heap.size + 1) zeroM60 := ⟨heap_alloc2_new _ _ _, rfl⟩
  have T0 : TrIn w (qBox (trBox w g log.length c Wn) zeroM60) g log.length c Wn := (TrIn.new w g log.length c Wn).below ((Below.refl _ _).alloc (Nat.le_refl _) _)
  have hB0 : Below w.heap.size w (qBox (trBox w g log.length c Wn) zeroM60) := (two_new (Below.refl _ _)).2.2.1
  have hst0 := storeQ_run s1 hz60
  have v1 := s1.setRow hz60
  have hH := fun (x : Int) (hx : 0 ≤ x ∧ x < log.length) w => Has_any (some ⟨g, 0, none⟩) c log.length Wn w x
  have HIN : Hid (inR log.length ev) := hin
  have HLL : Hid (∀ v ∈ log, EvOk n v) := hL
  clear hin hL
  go_enter Tryd.func67, Tryd.ntmps67
  go_wp2
  go_loopw [6] (fun x wr => ∃ k : Nat, k ≤ ev.length ∧ x = .int .i64 (k : Int) ∧ SetIn wr (w.heap.size + 1) (markE 60 (ev.take k)) ∧ TrIn w wr g log.length c Wn ∧ Below w.heap.size w wr) (fun x _ => ev.length - (intOf x).toNat)
  case atStart => exact ⟨0, Nat.zero_le _, rfl, by simpa [markE, zeroM60] using v1, T0.row (by omega) _, below_setRow hB0 (by omega) _⟩
  case round =>
    obtain ⟨k, hk, rfl, r1, T, hBr⟩ := hrel
    clear s1 T0 hB0 hst0 v1
    have e0 := T.c0
    have e1 := T.c1
    by_cases hke : k < ev.length
    · obtain ⟨x, hx⟩ := get_some ev k hke
      have hxin := HIN.out x (List.mem_of_getElem? hx)
      obtain ⟨ga, oa, ha, ca⟩ := hA k x hx
      subst ha
      have ca' := cell_later hBr ca
      obtain ⟨y, rfl⟩ : ∃ y : Nat, x = y := ⟨x.toNat, by omega⟩
      have htk : ev.take (k + 1) = ev.take k ++ [(y : Int)] := by rw [List.take_add_one, hx]; rfl
      have HM : Hid (markE 60 (ev.take (k + 1)) = (markE 60 (ev.take k)).set y true) := by rw [Hid, htk, markE_snoc, Int.toNat_natCast]
      have hHx := fun w => hH (y : Int) hxin w
      rw [decide_eq_true hxin] at hHx
      have hmn := r1.n
      generalize markE 60 (ev.take k) = m at *
      obtain ⟨q, hq⟩ : ∃ q, m[y]? = some q := ⟨m[y]'(by omega), by simp⟩
      have cq := r1.cell hq
      have k0 : (0 : Int) ≤ (k : Int) := by omega
      have kl : (k : Int) < (ev.length : Int) := by omega
      have y0 : (0 : Int) ≤ (y : Int) := by omega
      have y60 : (y : Int) < 60 := by omega
      clear hx htk hq hH
      go_upto_region 5 with fail
      go_region_held3 (fun w' => w'.cell? ⟨w.heap.size, 0, none⟩ = some (.slice (some ⟨g, 0, none⟩) log.length c) ∧ w'.cell? ⟨w.heap.size, 1, none⟩ = some Wn ∧ w'.cell? ⟨ga, oa + k, none⟩ = some (.int .i64 (y : Int)))
        (first | (refine ⟨cell_later ?_ e0, cell_later ?_ e1, cell_later ?_ ca'⟩ <;> first | exact Below.refl _ _ | exact (Below.refl _ _).drew | exact hx1 | exact hx1.drew) | go_keep)
        (first | (go_at_call 81; refine (hHx _).mono ?_; rintro e w2 ⟨rfl, hbb⟩; have hx1 : Below wr.heap.size wr w2 := (by first | exact hbb | exact below_of_drew hbb)))
      have u1 := r1.below hx1
      have cq2 := cell_later hx1 cq
      have zq := u1.z y
      have ca2 := cell_later hx1 ca'
      clear e0 e1 cq ca ca'
      go_wp2
      go_roundw
      case rel => exact ⟨k + 1, by omega, rfl, by rw [HM.out]; exact u1.put y true, (T.below hx1).put (by simp) _, (hBr.trans (hx1.mono hBr.size)).setCell (by simp) _⟩
      case measure => (simp [intOf] <;> omega)
    · have hke' : k = ev.length := by omega
      have kl : ¬ (k : Int) < (ev.length : Int) := by omega
      subst hke'
      rw [List.take_length] at r1
      have hCl := closure_any g c Wn log HLL.out (markE 60 ev) r1.n (markE_inN HIN.out) wr (hE.below hBr) hl
      have hLi := fun m hm w => list_any g c log.length Wn m hm hl w
      have hld := r1.loadQ
      clear hH hA
      go_wp2_with (first
        | (go_at_call 82; refine hCl.mono ?_; rintro e w2 ⟨m, rfl, hb2, hmn, hMS, hCS⟩; have HMC : Hid (MidS log (markE 60 ev) m ∧ ClosedS log m) := ⟨hMS, hCS⟩; clear hMS hCS; have u1 := r1.below hb2; have hst := storeQ_run u1 hmn; have v1 := u1.setRow hmn; have hld2 := v1.loadQ; have T2 := (T.below hb2).row (show w.heap.size ≠ w.heap.size + 1 by omega) (setC m); have f0 := T2.c0; have f1 := T2.c1; have B2 := below_setRow (hBr.trans (hb2.mono hBr.size)) (show w.heap.size ≤ w.heap.size + 1 by omega) (setC m))
        | (go_at_call 83; refine (hLi m hmn _).mono ?_; rintro e w3 ⟨g3, c3, rfl, hb3, ho3⟩))
      go_ret
      exact ⟨g3, c3, m, rfl, B2.trans (hb3.mono B2.size), ownsRow_mono ho3 (by have := B2.size; omega), hmn, HMC.out.1, HMC.out.2⟩
end Go.Proofs.YtdfndcbakcmgiabDoor
