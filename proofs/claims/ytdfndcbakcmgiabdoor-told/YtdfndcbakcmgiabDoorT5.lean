import Derived.Test.YtdfndcbakcmgiabDoorR1
import Derived.Test.YtdfndcbakcmgiabDoorT2
import Derived.Test.YtdfndcbakcmgiabDoorE17
import Derived.Test.YtdfndcbakcmgiabDoorE16
namespace Go.Proofs.YtdfndcbakcmgiabDoor
open Go.RowKit

/-! What must come ahead, as chains of events that lead to one another. -/
def leadB (log : List Ev) (i k : Nat) : Bool := (log[i]?.bind fun a => log[k]?.map fun b => strE a b).getD false
theorem leadB_at {log : List Ev} {i k : Nat} {a b : Ev} (ha : log[i]? = some a) (hb : log[k]? = some b) : leadB log i k = strE a b := by rw [leadB, ha, hb]; rfl
theorem leadB_lt {log : List Ev} {i k : Nat} (h : leadB log i k = true) : i < log.length ∧ k < log.length := by
  unfold leadB at h
  constructor
  · cases ha : log[i]? with
    | none => rw [ha] at h; simp at h
    | some a => exact (List.getElem?_eq_some_iff.1 ha).1
  · cases hb : log[k]? with
    | none => rw [hb] at h; cases ha : log[i]? <;> rw [ha] at h <;> simp at h
    | some b => exact (List.getElem?_eq_some_iff.1 hb).1

theorem markL_other (log : List Ev) (j i : Nat) : ∀ (d k : Nat) (m : List Bool), j + 1 - k = d → ∀ x, x ≠ i → (markL log j i k m)[x]? = m[x]? := by
  intro d
  induction d with
  | zero => intro k m hd x hx; rw [markL, if_neg (by omega)]
  | succ d ih =>
    intro k m hd x hx
    rw [markL, if_pos (by omega), ih (k + 1) _ (by omega) x hx]
    split
    · rw [List.getElem?_set, if_neg (fun h => hx h.symm)]
    · rfl
theorem markL_own (log : List Ev) (j i : Nat) : ∀ (d k : Nat) (m : List Bool), j + 1 - k = d → i < k → i < m.length →
    ((markL log j i k m)[i]? = some true ↔ (m[i]? = some true ∨ ∃ x, k ≤ x ∧ x ≤ j ∧ (x = j ∨ m[x]? = some true) ∧ leadB log i x = true)) := by
  intro d
  induction d with
  | zero =>
    intro k m hd hik hil
    rw [markL, if_neg (by omega)]
    constructor
    · exact .inl
    · rintro (h | ⟨x, h1, h2, _⟩)
      · exact h
      · omega
  | succ d ih =>
    intro k m hd hik hil
    rw [markL, if_pos (by omega)]
    have hl : (log[i]?.bind fun a => log[k]?.map fun b => strE a b).getD false = leadB log i k := rfl
    rw [hl]
    have hmk : (m[k]?.getD false = true) ↔ m[k]? = some true := by
      cases m[k]? <;> simp
    simp only [hmk]
    by_cases hc : (k = j ∨ m[k]? = some true) ∧ leadB log i k = true
    · rw [if_pos hc, ih (k + 1) _ (by omega) (by omega) (by simpa using hil)]
      constructor
      · exact fun _ => .inr ⟨k, Nat.le_refl _, by omega, hc.1, hc.2⟩
      · exact fun _ => .inl (by rw [List.getElem?_set, if_pos rfl, if_pos hil])
    · rw [if_neg hc, ih (k + 1) _ (by omega) (by omega) hil]
      constructor
      · rintro (h | ⟨x, h1, h2, h3, h4⟩)
        · exact .inl h
        · exact .inr ⟨x, by omega, h2, h3, h4⟩
      · rintro (h | ⟨x, h1, h2, h3, h4⟩)
        · exact .inl h
        · by_cases hx : x = k
          · subst hx; exact absurd ⟨h3, h4⟩ hc
          · exact .inr ⟨x, by omega, h2, h3, h4⟩

theorem marksL_iff (log : List Ev) (j : Nat) (hj : j < log.length) : ∀ (c : Nat) (m : List Bool), c ≤ j → m.length = log.length → (∀ x, c ≤ x → (m[x]? = some true ↔ Ch (leadB log) j x)) → (∀ x, x < c → m[x]? = some false) →
    ∀ x, (marksL log j c m)[x]? = some true ↔ Ch (leadB log) j x
  | 0, m, _, _, h1, _, x => by rw [marksL]; exact h1 x (Nat.zero_le _)
  | c + 1, m, hc, hm, h1, h2, x => by
    rw [marksL]
    refine marksL_iff log j hj c _ (by omega) (by rw [markL_len log j c _ _ _ rfl]; exact hm) ?_ ?_ x
    · intro y hy
      by_cases hyc : y = c
      · subst hyc
        rw [markL_own log j y _ _ m rfl (by omega) (by omega), h2 y (by omega)]
        constructor
        · rintro (h | ⟨x, h3, h4, h5, h6⟩)
          · simp at h
          · rcases h5 with rfl | h5
            · exact .one (by omega) h6
            · exact .more (by omega) h6 ((h1 x (by omega)).1 h5)
        · intro h
          refine .inr ?_
          cases h with
          | one h3 h4 => exact ⟨j, by omega, Nat.le_refl _, .inl rfl, h4⟩
          | @more _ k h3 h4 h5 => exact ⟨k, by omega, by have := h5.lt; omega, .inr ((h1 k (by omega)).2 h5), h4⟩
      · rw [markL_other log j c _ _ m rfl y hyc]
        exact h1 y (by omega)
    · intro y hy
      rw [markL_other log j c _ _ m rfl y (by omega)]
      exact h2 y (by omega)
theorem aheadR_iff (log : List Ev) (j : Nat) (hj : j < log.length) (i : Nat) : (aheadR log j)[i]? = some true ↔ Ch (leadB log) j i := by
  refine marksL_iff log j hj j _ (Nat.le_refl _) (by simp) (fun x hx => ?_) (fun x hx => ?_) i
  · constructor
    · intro h
      rw [List.getElem?_replicate] at h
      split at h <;> simp at h
    · intro h; have := h.lt; omega
  · rw [List.getElem?_replicate, if_pos (by omega)]

/-- What Before answers of two events. -/
theorem before_same (log : List Ev) (i j : Nat) (hj : j < log.length) (hl : log.length ≤ 60) : (aheadR log j)[i]?.getD false = (decide (i < j) && (aheadS (leadB log) j)[i]?.getD false) := by
  rw [Bool.eq_iff_iff, getD_true, aheadR_iff log j hj, Bool.and_eq_true, getD_true, aheadS_iff (leadB log) j (by omega), decide_eq_true_iff]
  constructor
  · exact fun h => ⟨h.lt, .inr h⟩
  · rintro ⟨h, rfl | h2⟩
    · omega
    · exact h2
end Go.Proofs.YtdfndcbakcmgiabDoor
namespace Go.Proofs.YtdfndcbakcmgiabDoor
open Go.RowKit
attribute [local go_sem ↓] loadS_fold storeS_fold zeroS_fold

def storeV (p v : Value) : Sem Unit := Instr.storeAt 88 p v
theorem storeV_fold (p v : Value) : Instr.storeAt 88 p v = storeV p v := rfl
theorem Mv.one (m : Mv) : ∀ v ∈ m.cells, v.oneCell' = true := by
  intro v hv
  simp only [Mv.cells, List.mem_toArray, List.mem_cons, List.not_mem_nil, or_false] at hv
  rcases hv with rfl | rfl | rfl | rfl | rfl | rfl <;> rfl
theorem storeV_run {w : World} {g : Nat} {old : Array Value} {ty : TypeId} {m : Mv} (h : w.heap[g]? = some (.cells old ty (0, 0))) (ho : old.size = 6) :
    (storeV (.pointer (some ⟨g, 0, none⟩)) (.agg m.cells)).run Tryd.prog w = .ok () (w.setRow g m.cells) := by
  simp only [Go.Proofs.YtdfndcbakcmgiabDoor.storeV, Instr.storeAt, Instr.sureAddr, Sem.run_bind, Sem.run_pure, Result.andThen]
  exact run_storeVar_row w g ty _ old m.cells h info6 ho (Array.all_eq_true_iff_forall_mem.2 fun v hv => m.one v hv)
abbrev zeroMv : Array Value := #[.int .i64 0, .int .i64 0, .int .i64 0, .int .i64 0, .int .i64 0, .string ⟨#[]⟩]
attribute [local go_sem ↓] storeV_fold

set_option maxRecDepth 100000 in
set_option maxHeartbeats 2000000 in
theorem moveOf_in (V : Value) (L : List (List Stp)) (s : MS) (ok : s.Ok) (w : World) (B : Nat) (hp : ProgIn w B V L) (hL : L.length ≤ 5) (t n : Nat) (ht : t < L.length) (i : Int) (hi : i = t) (hn : s.pl[t]? = some n) (x : Stp) (hx : L[t][n]? = some x) :
    Calls Tryd.prog 45 #[.agg #[V], .agg s.cells, .int .i64 i] w fun e w' => e = .returned (.agg (Mv.cells ⟨t, n, x, holdsLoop s.ow t 0 ⟨#[]⟩⟩)) ∧ Below w.heap.size w w' := by
  subst hi
  have hp2 : ProgIn (boxes w V s) B V L := (hp.alloc (.cells #[V] 60)).alloc (.cells s.cells 79)
  have hp3 := hp2.alloc (.cells zeroMv 88)
  have hN := fun w' hw => Next_in V L s ok w' B (ProgIn.below hp3 (w' := w') hw) hL t n ht _ rfl hn x hx
  have hH := fun w => HoldsM_any s ok t _ rfl w
  have hst : StIn (boxes w V s) (w.heap.size + 1) s := ⟨heap_alloc2_new _ _ _, ok⟩
  have hst3 := hst.below ((Below.refl _ _).alloc (Nat.le_refl _) (.cells zeroMv 88))
  have hld := hst3.loadS
  have hc0 : (boxes w V s).cell? ⟨w.heap.size, 0, none⟩ = some V := cellB (heap_alloc2_old _ _ _) rfl
  have hc1 := cell_later ((Below.refl _ _).alloc (Nat.le_refl _) (.cells zeroMv 88)) hc0
  have hr : ((boxes w V s).alloc (.cells zeroMv 88)).heap[w.heap.size + 2]? = some (.cells zeroMv 88) := by
    have := heap_alloc_new (boxes w V s) (.cells zeroMv 88)
    simpa using this
  have hB0 : Below w.heap.size w ((boxes w V s).alloc (.cells zeroMv 88)) := (two_new ((Below.refl _ _).alloc (Nat.le_refl _) _)).2.2.1
  generalize holdsLoop s.ow t 0 ⟨#[]⟩ = hs at *
  clear hp2 hp3 hp hc0 hst
  go_enter Tryd.func45, Tryd.ntmps45
  go_upto_region 2 with (first | (go_at_call 58; refine (hN _ (Below.refl _ _)).mono ?_; rintro e w1 ⟨he, hb⟩; rw [nextV, stpV] at he; subst he))
  obtain ⟨n0, n1, n2⟩ := new3_get w1 (.int .i64 x.kind) (.int .i64 x.which) (.int .i64 x.count) 86
  have hb1 := hb.alloc hb.size (.cells #[.int .i64 x.kind, .int .i64 x.which, .int .i64 x.count] 86)
  have hsX := hst3.below hb1
  have hrX := (hb1.block (w.heap.size + 2) (Array.getElem?_eq_some_iff.1 hr).1).trans hr
  have hBX := hB0.trans (hb1.mono hB0.size)
  have hlt : w.heap.size + 3 ≤ w1.heap.size := by have := hb.size; simp at this; omega
  have hlX := (Array.getElem?_eq_some_iff.1 hrX).1
  generalize w1.alloc (.cells #[.int .i64 x.kind, .int .i64 x.which, .int .i64 x.count] 86) = X at *
  clear hN hld hc1 hr hB0 hb hb1 hst3
  go_region_held3 (fun w' => w'.cell? ⟨w1.heap.size, 0, none⟩ = some (.int .i64 x.kind) ∧ w'.cell? ⟨w1.heap.size, 1, none⟩ = some (.int .i64 x.which) ∧ w'.cell? ⟨w1.heap.size, 2, none⟩ = some (.int .i64 x.count) ∧ (loadS (.pointer (some ⟨w.heap.size + 1, 0, none⟩))).run Tryd.prog w' = .ok (.agg s.cells) w')
    (first | (refine ⟨cell_later ?_ n0, cell_later ?_ n1, cell_later ?_ n2, (hsX.below ?_).loadS⟩ <;> first | exact Below.refl _ _ | exact (Below.refl _ _).drew | exact hx1 | exact hx1.drew) | exact ⟨by rw [cell_setRow_other _ _ _ _ (show w1.heap.size ≠ w.heap.size + 2 by omega)]; exact cell_later hx1 n0, by rw [cell_setRow_other _ _ _ _ (show w1.heap.size ≠ w.heap.size + 2 by omega)]; exact cell_later hx1 n1, by rw [cell_setRow_other _ _ _ _ (show w1.heap.size ≠ w.heap.size + 2 by omega)]; exact cell_later hx1 n2, ((hsX.below hx1).row (by omega) _).loadS⟩)
    (first | (go_at_call 61; refine (hH _).mono ?_; rintro e w2 ⟨rfl, hbb⟩; have hx1 : Below X.heap.size X w2 := (by first | exact hbb | exact below_of_drew hbb); have hrow := (hx1.block _ hlX).trans hrX; have hsv := storeV_run (m := ⟨t, n, x, hs⟩) hrow rfl; simp only [Mv.cells] at hsv))
  go_wp2
  exact bodyPost_ret (v := .agg (Mv.cells ⟨t, n, x, hs⟩)) (results_cell_row Tryd.results45 _ _ (w.heap.size + 2) _ _ _ _ rfl (setRow_heap _ _ _ _ _ _ hrow) Tryd.underlying88 rfl info6) rfl ⟨rfl, below_setRow (hBX.trans (hx1.mono hBX.size)) (by omega) _⟩
end Go.Proofs.YtdfndcbakcmgiabDoor
namespace Go.Proofs.YtdfndcbakcmgiabDoor
open Go.RowKit
attribute [local go_sem ↓] loadS_fold storeS_fold zeroS_fold

/-! The program's trace, against the reference's world. -/
def mvE (e : Ev) : Mv := ⟨e.thread.toNat, e.place.toNat, stpOf e.txt, e.holds⟩
/-- The move that thread t is at, as an event. -/
def evAt (W : Wd) (t : Nat) : Ev := ⟨t, (W.place[t]?.getD 0 : Nat), (W.prog[t]?.getD [])[W.place[t]?.getD 0]?.getD ⟨#[]⟩, holdsOf W t⟩
def mvCells (l : List Ev) : List Value := l.flatMap fun e => (mvE e).cells.toList
theorem mvCells_snoc (l : List Ev) (e : Ev) : mvCells (l ++ [e]) = mvCells l ++ (mvE e).cells.toList := by simp [mvCells]
theorem infoMv : (Tryd.prog.info? 88).map (fun i => (i.zero, i.size, i.bytes)) = some (some (.agg zeroMv), 6, 56) := by kernel_rfl
/-- The asks that wait, among the first t threads. -/
def wantsE (W : Wd) (t : Nat) : List Ev := ((List.range t).filter fun u => decide (stateOf W u = 2)).map (evAt W)
theorem wantsE_yes {W : Wd} {t : Nat} (h : stateOf W t = 2) : wantsE W (t + 1) = wantsE W t ++ [evAt W t] := by simp [wantsE, List.range_succ, h]
theorem wantsE_no {W : Wd} {t : Nat} (h : stateOf W t ≠ 2) : wantsE W (t + 1) = wantsE W t := by simp [wantsE, List.range_succ, h]
theorem wantsE_len (W : Wd) (t : Nat) : (wantsE W t).length ≤ t := by
  rw [wantsE, List.length_map]
  exact Nat.le_trans (List.length_filter_le _ _) (by simp)

theorem moveOf_W (V : Value) (W : Wd) (G : W.Good) (w : World) (B : Nat) (hp : ProgIn w B V (progL W)) (t : Nat) (ht : t < W.prog.length) (hs : stateOf W t = 1 ∨ stateOf W t = 2) (i : Int) (hi : i = t) :
    Calls Tryd.prog 45 #[.agg #[V], .agg (msOf W).cells, .int .i64 i] w fun e w' => e = .returned (.agg (mvE (evAt W t)).cells) ∧ Below w.heap.size w w' := by
  obtain ⟨n, l, d, A, _⟩ := stateOf_at W t (by omega) (by omega) G ht
  have hx : (progL W)[t]'(by rw [progL_len]; exact ht) = l.map stpOf := by
    have h := progL_get W t
    rw [A.prog, Option.getD_some, List.getElem?_eq_getElem (by rw [progL_len]; exact ht), Option.getD_some] at h
    exact h
  have h := moveOf_in V (progL W) (msOf W) (msOf_ok G) w B hp (by rw [progL_len]; exact G.n5) t n (by rw [progL_len]; exact ht) i hi (by rw [msOf_pl G ht, A.place]) (stpOf d) (by rw [hx, List.getElem?_map, A.txt]; rfl)
  have e : mvE (evAt W t) = ⟨t, n, stpOf d, holdsLoop (msOf W).ow t 0 ⟨#[]⟩⟩ := by
    simp only [mvE, evAt, A.place, A.prog, A.txt, Option.getD_some, Int.toNat_natCast]
    rfl
  rw [e]; exact h

set_option maxRecDepth 100000 in
set_option maxHeartbeats 4000000 in
theorem listWants_any (V : Value) (W : Wd) (G : W.Good) (w : World) (B : Nat) (hp : ProgIn w B V (progL W)) :
    Calls Tryd.prog 46 #[.agg #[V], .agg (msOf W).cells] w fun e w' => ∃ g cap, e = .returned (.slice (some ⟨g, 0, none⟩) (wantsE W W.prog.length).length cap) ∧ Below w.heap.size w w' ∧
      w'.ownsRow (w.heap.size + 2) 88 6 (.slice (some ⟨g, 0, none⟩) (wantsE W W.prog.length).length cap) (wantsE W W.prog.length).length (mvCells (wantsE W W.prog.length)) := by
  have ok := msOf_ok G
  have HP : Hid (ProgIn (boxes w V (msOf W)) B V (progL W)) := (hp.alloc (.cells #[V] 60)).alloc (.cells (msOf W).cells 79)
  have hst : StIn (boxes w V (msOf W)) (w.heap.size + 1) (msOf W) := ⟨heap_alloc2_new _ _ _, ok⟩
  have hc1 : (boxes w V (msOf W)).cell? ⟨w.heap.size, 0, none⟩ = some V := cellB (heap_alloc2_old _ _ _) rfl
  have hbs : (boxes w V (msOf W)).heap.size = w.heap.size + 2 := by simp
  have hB0 : Below w.heap.size w (boxes w V (msOf W)) := (two_new (Below.refl _ _)).2.2.1
  have hn5 := G.n5
  have HG : Hid (W.Good) := G
  clear hp G
  go_enter Tryd.func46, Tryd.ntmps46
  go_wp2
  go_loopw [5, 6] (fun v i wr => ∃ t g cap : Nat, t ≤ W.prog.length ∧ i = .int .i64 t ∧ v = .slice (some ⟨g, 0, none⟩) (wantsE W t).length cap ∧ wr.ownsRow (w.heap.size + 2) 88 6 (.slice (some ⟨g, 0, none⟩) (wantsE W t).length cap) (wantsE W t).length (mvCells (wantsE W t)) ∧ Below (w.heap.size + 2) (boxes w V (msOf W)) wr) (fun _ i _ => W.prog.length - (intOf i).toNat)
  case atStart =>
    refine ⟨0, w.heap.size + 2, 0, by omega, rfl, rfl, ?_, ?_⟩
    · have h := World.ownsRow_lit (boxes w V (msOf W)) (base := w.heap.size + 2) (e := 88) (size := 6) #[] 0 (by simp) (Nat.zero_le _) rfl
      simpa [wantsE, mvCells] using h
    · rw [← hbs]; exact (Below.refl _ _).alloc (Nat.le_refl _) _
  case round =>
    obtain ⟨t, g, cap, ht, rfl, rfl, hown, hB⟩ := hrel
    have hB' : Below (boxes w V (msOf W)).heap.size (boxes w V (msOf W)) wr := by rw [hbs]; exact hB
    have hsz : w.heap.size + 2 ≤ wr.heap.size := by rw [← hbs]; exact hB'.size
    have hsr := hst.below hB'
    have p0 := cell_later hB' hc1
    have hT := Threads_any V (progL W) wr B (HP.out.below hB')
    rw [progL_len] at hT
    have hgl := hown.lt g rfl
    by_cases htn : t < W.prog.length
    · have htl : (t : Int) < (W.prog.length : Int) := by omega
      have hLk := fun w' hw => Look_in V (progL W) (msOf W) ok w' B ((HP.out.below hB').below (w' := w') hw) (by rw [progL_len]; exact hn5) (progL_po HG.out).sok t (by rw [progL_len]; exact htn) _ rfl
      rw [look_sim HG.out htn] at hLk
      have hlw := wantsE_len W t
      by_cases h2 : stateOf W t = 2
      · have hV := fun w' hw => moveOf_W V W HG.out w' B ((HP.out.below hB').below (w' := w') hw) t htn (.inr h2) _ rfl
        have HTH : Hid (wantsE W (t + 1) = wantsE W t ++ [evAt W t]) := wantsE_yes h2
        rw [h2] at hLk
        generalize waitsOf W t = wt at *
        generalize hev : evAt W t = ev at *
        generalize hwl : wantsE W t = wl at *
        have HC : Hid (mvCells (wl ++ [ev]) = mvCells wl ++ (mvE ev).cells.toList) := mvCells_snoc _ _
        generalize mvE ev = mv at *
        obtain ⟨th, pl, ⟨k, i, c⟩, hh⟩ := mv
        simp only [Mv.cells] at hV
        clear hev hwl h2
        go_wp2_with (first
          | (go_at_call 52; refine hT.mono ?_; rintro e w1 ⟨rfl, hb1⟩; have p1 := cell_later hb1 p0; have hld := (hsr.below hb1).loadS)
          | (go_at_call 57; refine (hLk _ hb1).mono ?_; rintro e w2 ⟨he, hb2⟩; rw [pairV] at he; subst he; have hB2 := hb1.trans (hb2.mono hb1.size); have p2 := cell_later hB2 p0; have hld2 := (hsr.below hB2).loadS)
          | (go_at_call 45; refine (hV _ hB2).mono ?_; rintro e w3 ⟨rfl, hb3⟩; have hB3 := hB2.trans (hb3.mono hB2.size); have hown2 := hown.kept (grownBy_of_below hB3) (.inr (by simp [Value.ownBlock])))
          | (at_builtin; go_loud (refine wpList_appendLit _ rfl _ _ 50 rfl (w.heap.size + 2) 88 (.agg zeroMv) 6 56 Tryd.underlying50 infoMv rfl (by decide) _ _ _ rfl hown2 _ _ rfl rfl ?c1 ?c2 ?c3 ?c4 ?c5 ?_)))
        case c1 => rfl
        case c2 => exact ⟨rfl, rfl, rfl, rfl, rfl, rfl⟩
        case c3 => omega
        case c4 => omega
        case c5 => have := hB3.size; omega
        intro v' w4 ho4 hg4 hf4 hn4
        have h1 := hB.trans (hB3.mono hsz)
        have hsz3 := hB3.size
        have hB4 : Below (w.heap.size + 2) (boxes w V (msOf W)) w4 := below_grown (h1.alloc (by omega) _) (by simp; omega) hg4 (fun k hk => by simp [Value.ownBlock] at hk; omega)
        obtain ⟨g', cap', hv4⟩ := row_form ho4 hn4
        subst hv4
        clear hg4 hf4 hn4 hown hown2
        go_wp2
        go_roundw
        case rel =>
          refine ⟨t + 1, g', cap', by omega, rfl, by rw [HTH.out]; simp, ?_, hB4⟩
          rw [HTH.out, HC.out]
          simpa [Mv.cells] using ho4
        case measure => simp [intOf]; omega
      · have HTH : Hid (wantsE W (t + 1) = wantsE W t) := wantsE_no h2
        have hb2' : (stateOf W t == 2) = false := beq_false_of_ne h2
        generalize stateOf W t = st at *
        generalize waitsOf W t = wt at *
        clear h2
        go_wp2_with (first
          | (go_at_call 52; refine hT.mono ?_; rintro e w1 ⟨rfl, hb1⟩; have p1 := cell_later hb1 p0; have hld := (hsr.below hb1).loadS)
          | (go_at_call 57; refine (hLk _ hb1).mono ?_; rintro e w2 ⟨he, hb2⟩; rw [pairV] at he; subst he; have hB2 := hb1.trans (hb2.mono hb1.size)))
        go_roundw
        case rel =>
          have hown2 := hown.kept (grownBy_of_below hB2) (.inr (by simp [Value.ownBlock]))
          refine ⟨t + 1, g, cap, by omega, rfl, by rw [HTH.out], ?_, hB.trans (hB2.mono hsz)⟩
          rw [HTH.out]; exact hown2
        case measure => simp [intOf]; omega
    · have hte : t = W.prog.length := by omega
      have htl : ¬ (t : Int) < (W.prog.length : Int) := by omega
      go_wp2_with (first
        | (go_at_call 52; refine hT.mono ?_; rintro e w1 ⟨rfl, hb1⟩))
      subst hte
      have ho2 := hown.kept (grownBy_of_below hb1) (.inr (by simp [Value.ownBlock]))
      go_ret
      exact ⟨g, cap, rfl, hB0.trans ((hB'.trans (hb1.mono hB'.size)).mono hB0.size), ho2⟩
end Go.Proofs.YtdfndcbakcmgiabDoor
namespace Go.Proofs.YtdfndcbakcmgiabDoor
open Go.RowKit
attribute [local go_sem ↓] loadS_fold storeS_fold zeroS_fold

theorem flat_mv : ∀ (l : List Ev) (j : Nat) (e : Ev), l[j]? = some e → ∀ i v, (mvE e).cells.toList[i]? = some v → (mvCells l)[j * 6 + i]? = some v
  | [], _, _, h => by simp at h
  | a :: l, 0, e, h => by
    simp at h; subst h
    intro i v hv
    rw [Nat.zero_mul, Nat.zero_add, mvCells, List.flatMap_cons, List.getElem?_append_left (List.getElem?_eq_some_iff.1 hv).1]
    exact hv
  | a :: l, j + 1, e, h => by
    intro i v hv
    have := flat_mv l j e (by simpa using h) i v hv
    have h6 : (mvE a).cells.toList.length = 6 := rfl
    rw [mvCells, List.flatMap_cons, List.getElem?_append_right (by rw [h6]; omega), h6, show (j + 1) * 6 + i - 6 = j * 6 + i by omega]
    exact this
theorem mvsAt_of_row {w : World} {B g cap : Nat} {l : List Ev} (h : w.ownsRow B 88 6 (.slice (some ⟨g, 0, none⟩) l.length cap) l.length (mvCells l)) : MvsAt w g (l.map mvE) := by
  intro j a ha i v hv
  rw [List.getElem?_map] at ha
  cases he : l[j]? with
  | none => rw [he] at ha; simp at ha
  | some e =>
    rw [he] at ha
    simp only [Option.map_some, Option.some.injEq] at ha
    subst ha
    have hj := (List.getElem?_eq_some_iff.1 he).1
    have hi : i < 6 := (List.getElem?_eq_some_iff.1 hv).1
    rw [h.cellAt (j * 6 + i) (by omega)]
    exact flat_mv l j e he i v hv
theorem toLoop_log (sch : ByteArray) : ∀ (n k : Nat) (W0 W : Wd), sch.size - k = n → toLoop sch W0 k = some W → W.log.length = W0.log.length + n := by
  intro n
  induction n with
  | zero =>
    intro k W0 W hn h
    rw [toLoop, if_neg (by omega)] at h
    cases h; rfl
  | succ n ih =>
    intro k W0 W hn h
    rw [toLoop, if_pos (by omega)] at h
    split at h
    · have := ih (k + 1) _ W (by omega) h
      rw [moveT_log] at this
      omega
    · cases h
theorem toLoop_long (sch : ByteArray) (W0 : Wd) (I : W0.Inv) (h : 60 < sch.size) : toLoop sch W0 0 = none := by
  cases hW : toLoop sch W0 0 with
  | none => rfl
  | some W =>
    have h1 := toLoop_log sch _ 0 W0 W rfl hW
    have h2 := (toLoop_inv sch _ 0 W0 W rfl I hW).1.small
    omega
theorem moveT_evAt (W : Wd) (t : Nat) : (moveT W t).log = W.log ++ [evAt W t] := moveT_logE t
theorem grownBy_setRow (w : World) (g : Nat) (c : Array Value) : w.grownBy (w.setRow g c) (some g) :=
  ⟨by simp, by simp, by simp, by simp, fun k _ hk => setRow_other w g k c (fun e => hk (by rw [e]))⟩

/-- What trace.Follow answers. -/
def FolP (n : Nat) (w' : World) (e : Ending) : Option Wd → Prop
  | none => e = .returned (.tuple #[.agg #[.slice none 0 0, .slice none 0 0], .bool false])
  | some W => ∃ g c g' c', e = .returned (.tuple #[.agg #[.slice (some ⟨g, 0, none⟩) W.log.length c, .slice (some ⟨g', 0, none⟩) (wantsE W W.prog.length).length c'], .bool true]) ∧ MvsAt w' g (W.log.map mvE) ∧ MvsAt w' g' ((wantsE W W.prog.length).map mvE) ∧ n ≤ g ∧ n ≤ g'

set_option maxRecDepth 100000 in
set_option maxHeartbeats 4000000 in
theorem FollowT_any (V : Value) (W0 : Wd) (I0 : W0.Inv) (hl0 : W0.log = []) (hF0 : firstM = msOf W0) (sch : ByteArray) (hs : sch.size ≤ maxLen) (w : World) (B : Nat) (hp : ProgIn w B V (progL W0)) :
    Calls Tryd.prog 28 #[.agg #[V], .string sch] w fun e w' => FolP w.heap.size w' e (toLoop sch W0 0) ∧ Below w.heap.size w w' := by
  unfold maxLen at hs
  have hr1 : ((w.alloc (.cells #[V] 60)).alloc (.cells #[.slice none 0 0, .slice none 0 0] 52)).heap[w.heap.size + 1]? = some (.cells #[.slice none 0 0, .slice none 0 0] 52) := heap_alloc2_new _ _ _
  have hB0 : Below w.heap.size w ((w.alloc (.cells #[V] 60)).alloc (.cells #[.slice none 0 0, .slice none 0 0] 52)) := (two_new (Below.refl _ _)).2.2.1
  by_cases h60 : 60 < sch.size
  · rw [toLoop_long sch W0 I0 h60]
    have h60' : (60 : Int) < (sch.size : Int) := by omega
    have q0 : ((w.alloc (.cells #[V] 60)).alloc (.cells #[.slice none 0 0, .slice none 0 0] 52)).cell? ⟨w.heap.size + 1, 0, none⟩ = some (.slice none 0 0) := cellB hr1 rfl
    have q1 : ((w.alloc (.cells #[V] 60)).alloc (.cells #[.slice none 0 0, .slice none 0 0] 52)).cell? ⟨w.heap.size + 1, 1, none⟩ = some (.slice none 0 0) := cellB hr1 rfl
    have z0 := frozen_of_row _ _ 0 _ _ hr1
    have z1 := frozen_of_row _ _ 1 _ _ hr1
    go_enter Tryd.func28, Tryd.ntmps28
    go_wp2
    exact bodyPost_ret (v := .tuple #[.agg #[.slice none 0 0, .slice none 0 0], .bool false]) (by simp [results, Tryd.results28, go_sem, q0, q1]) rfl ⟨rfl, hB0⟩
  · have h60' : ¬ (60 : Int) < (sch.size : Int) := by omega
    have hF := fun w => First_any w
    generalize hres : toLoop sch W0 0 = res
    have HR : Hid (toLoop sch W0 0 = res) := hres
    clear hres
    have HP : Hid (ProgIn w B V (progL W0)) := hp
    have HI : Hid (W0.Inv) := I0
    have ok0 : firstM.Ok := firstK_ok _ _ (by omega)
    have HF0 : Hid (firstM = msOf W0) := hF0
    clear hF0
    have hrow0 := World.ownsRow_lit ((w.alloc (.cells #[V] 60)).alloc (.cells #[.slice none 0 0, .slice none 0 0] 52)) (base := w.heap.size + 2) (e := 88) (size := 6) #[] 0 (by simp) (Nat.zero_le _) rfl
    have hB1 := hB0.alloc hB0.size (.cells #[] 88)
    have hr2 := heap_alloc_old ((w.alloc (.cells #[V] 60)).alloc (.cells #[.slice none 0 0, .slice none 0 0] 52)) (.cells #[] 88) (Array.getElem?_eq_some_iff.1 hr1).1
    rw [hr1] at hr2
    have p00 := cell_later ((Below.refl _ _).alloc (Nat.le_refl _) (.cells #[] 88)) (cellB (heap_alloc2_old w (.cells #[V] 60) (.cells #[.slice none 0 0, .slice none 0 0] 52)) (j := 0) (v := V) rfl)
    have hs3 : (((w.alloc (.cells #[V] 60)).alloc (.cells #[.slice none 0 0, .slice none 0 0] 52)).alloc (.cells #[] 88)).heap.size = w.heap.size + 3 := by simp
    clear hp I0 hr1 hB0
    go_enter Tryd.func28, Tryd.ntmps28
    go_wp2_with (first | (go_at_call 36; refine (hF _).mono ?_; rintro e w1 ⟨rfl, hb⟩; have hstn := storeS_run (s := firstM) (heap_alloc_new w1 (.cells zeroS 79)) rfl ok0))
    have hbN := Below.setRow (hb.alloc hb.size (.cells zeroS 79)) hb.size firstM.cells
    have hsN : StIn ((w1.alloc (.cells zeroS 79)).setRow w1.heap.size firstM.cells) w1.heap.size firstM := StIn.setRow (heap_alloc_new w1 _) ok0
    have hlt1 : w.heap.size + 3 ≤ w1.heap.size := by have := hb.size; rw [hs3] at this; exact this
    go_loopw [6, 8] (fun v i wr => ∃ (k : Nat) (W : Wd) (g cap : Nat), k ≤ sch.size ∧ i = .int .i64 k ∧ v = .slice (some ⟨g, 0, none⟩) W.log.length cap ∧ Hid (toLoop sch W k = res) ∧ W.log.length = k ∧ W.Inv ∧ progL W = progL W0 ∧ wr.ownsRow (w.heap.size + 2) 88 6 (.slice (some ⟨g, 0, none⟩) W.log.length cap) W.log.length (mvCells W.log) ∧ g ≠ w1.heap.size ∧ StIn wr w1.heap.size (msOf W) ∧ wr.cell? ⟨w.heap.size, 0, none⟩ = some V ∧ wr.heap[w.heap.size + 1]? = some (.cells #[.slice none 0 0, .slice none 0 0] 52 (0, 0)) ∧ Below w.heap.size w wr) (fun _ i _ => sch.size - (intOf i).toNat)
    case atStart =>
      refine ⟨0, W0, w.heap.size + 2, 0, by omega, rfl, by rw [hl0]; rfl, HR, by rw [hl0]; rfl, HI.out, rfl, ?_, by omega, by rw [← HF0.out]; exact hsN, cell_later hbN p00, (hbN.block _ (Array.getElem?_eq_some_iff.1 hr2).1).trans hr2, hB1.trans (hbN.mono hB1.size)⟩
      rw [hl0]
      have := hrow0.kept (grownBy_of_below hbN) (.inr (by simp [Value.ownBlock]))
      simpa [mvCells] using this
    case round =>
      obtain ⟨k, W, g, cap, hk, rfl, rfl, HE, hlk, I, hPL, hown, hne, hsr, p0, r1, hBr⟩ := hrel
      have HPL : Hid (progL W = progL W0) := hPL
      have HLK : Hid (W.log.length = k) := hlk
      have hlk60 : W.log.length ≤ 60 := I.small
      clear hlk hPL hstn hF HR hb hbN hsN hrow0 hB1 hr2 p00 hs3
      have ok := hsr.ok
      have h5 := I.good.n5
      have hpr : ProgIn wr B V (progL W) := by rw [HPL.out]; exact HP.out.below hBr
      have hgl := hown.lt g rfl
      have hld := hsr.loadS
      have hsl := hsr.lt
      have hrl := (Array.getElem?_eq_some_iff.1 r1).1
      by_cases hke : k < sch.size
      · have hb8 : sch[k].toNat < 256 := UInt8.toNat_lt sch[k]
        have hb0 : (0 : Int) ≤ (sch[k].toNat : Int) := Int.natCast_nonneg _
        have k0 : (0 : Int) ≤ (k : Int) := by omega
        have kl : (k : Int) < (sch.size : Int) := by omega
        have hby : (sch[k].toNat : Int) = byteI sch k := byteI_in hke
        have hM := fun w' hw => Move_any V (progL W) (msOf W) ok w' B (hpr.below (w' := w') hw) (progL_po I.good) ((sch[k].toNat : Int) - 48)
        have hT := HE.out
        rw [toLoop, if_pos hke] at hT
        by_cases hc : 48 ≤ byteI sch k ∧ byteI sch k < 48 + W.prog.length ∧ stateOf W (byteI sch k - 48).toNat = 1
        · obtain ⟨t, htb⟩ : ∃ t : Nat, byteI sch k - 48 = t := ⟨(byteI sch k - 48).toNat, by omega⟩
          have htp : t < W.prog.length := by omega
          have hst1 : stateOf W t = 1 := by have := hc.2.2; rw [htb, Int.toNat_natCast] at this; exact this
          rw [if_pos ⟨hc.1, by omega, hc.2.1, hc.2.2⟩, htb, Int.toNat_natCast] at hT
          have hyes : stepM (progL W) (msOf W) ((sch[k].toNat : Int) - 48) = some (msOf (moveT W t)) := by rw [hby, htb, step_sim I htp, if_pos hst1]
          simp only [hyes, stepV, moveV] at hM
          have I2 := moveT_inv I htp hst1
          have okN := msOf_ok I2.good
          have hMO := fun w' hw => moveOf_W V W I.good w' B (hpr.below (w' := w') hw) t htp (.inl hst1) ((sch[k].toNat : Int) - 48) (by omega)
          have HT : Hid (toLoop sch (moveT W t) (k + 1) = res) := hT
          have HLG : Hid ((moveT W t).log = W.log ++ [evAt W t]) := moveT_evAt W t
          have HPL2 : Hid (progL (moveT W t) = progL W0) := by rw [Hid, progL_move]; exact HPL.out
          have HC : Hid (mvCells (W.log ++ [evAt W t]) = mvCells W.log ++ (mvE (evAt W t)).cells.toList) := mvCells_snoc _ _
          obtain ⟨s', hs'⟩ : ∃ s', msOf (moveT W t) = s' := ⟨_, rfl⟩
          rw [hs'] at hM okN
          have HS : Hid (msOf (moveT W t) = s') := hs'
          generalize mvE (evAt W t) = mv at *
          obtain ⟨mth, mpl, ⟨mk, mi, mc⟩, mh⟩ := mv
          simp only [Mv.cells] at hMO
          clear hyes hc HE hby hT hs' htb hst1 HPL
          go_wp2_with (first
            | (go_at_call 44; refine (hM _ (Below.refl _ _)).mono ?_; rintro e w2 ⟨rfl, hb2⟩; have hstN := storeS_run (s := s') (heap_alloc_new w2 (.cells zeroS 79)) rfl okN; have hbX := Below.setRow (hb2.alloc hb2.size (.cells zeroS 79)) hb2.size s'.cells; have pX := cell_later hbX p0; have hldX := (hsr.below hbX).loadS)
            | (go_at_call 45; refine (hMO _ hbX).mono ?_; rintro e w3 ⟨rfl, hb3⟩; have hB3 := hbX.trans (hb3.mono hbX.size); have hown3 := hown.kept (grownBy_of_below hB3) (.inr (by simp [Value.ownBlock])))
            | (at_builtin; go_loud (refine wpList_appendLit _ rfl _ _ 50 rfl (w.heap.size + 2) 88 (.agg zeroMv) 6 56 Tryd.underlying50 infoMv rfl (by decide) _ _ _ rfl hown3 _ _ rfl rfl rfl ?c2 ?c3 ?c4 ?c5 ?_)))
          case c2 => exact ⟨rfl, rfl, rfl, rfl, rfl, rfl⟩
          case c3 => omega
          case c4 => omega
          case c5 => have := hB3.size; have := hBr.size; omega
          intro v' w4 ho4 hg4 hf4 hn4
          have hl2 := hb2.size
          have hl3 := hb3.size
          have hlX := hbX.size
          have hl3' := hB3.size
          have hX10 : StIn ((w2.alloc (.cells zeroS 79)).setRow w2.heap.size s'.cells) w2.heap.size s' := StIn.setRow (heap_alloc_new w2 _) okN
          have hs10 := (hX10.below hb3).grown hg4 (by simp [Value.ownBlock]; omega)
          have hs7 := (hsr.below hB3).grown hg4 (by simp [Value.ownBlock]; omega)
          have p4 := cell_append1 hg4 (cell_later hB3 p0) (by simp [Value.ownBlock]; omega)
          have r3 := (hB3.block _ hrl).trans r1
          have r4 : w4.heap[w.heap.size + 1]? = some (.cells #[.slice none 0 0, .slice none 0 0] 52 (0, 0)) := by
            rw [hg4.block _ (by simp; omega) (by simp [Value.ownBlock]; omega), heap_alloc_old _ _ (by omega)]; exact r3
          have hBX := hBr.trans (hB3.mono hBr.size)
          have hB4 := below_grown (hBX.alloc hBX.size _) (by have := hBX.size; simp; omega) hg4 (fun k hk => by simp [Value.ownBlock] at hk; omega)
          obtain ⟨g', cap', hv4⟩ := row_form ho4 hn4
          subst hv4
          have hne' : g' ≠ w1.heap.size := by
            rcases hf4 with e | ⟨g2, e, h2⟩
            · simp only [Value.ownBlock, Option.some.injEq] at e; omega
            · simp only [Value.ownBlock, Option.some.injEq] at e; simp at h2; omega
          have hldN := hs10.loadS
          have hstM := storeS_run hs7.blk (MS.cells_size ok) okN
          clear hg4 hf4 hn4 hX10 hown hown3 hstN hM hMO hld hldX pX
          go_wp2
          go_roundw
          case rel =>
            refine ⟨k + 1, moveT W t, g', cap', by omega, rfl, by rw [HLG.out]; simp, HT, by rw [HLG.out, List.length_append, HLK.out]; rfl, I2, HPL2.out, ?_, hne', by rw [HS.out]; exact StIn.setRow hs7.blk okN, ?_, ?_, Below.setRow hB4 (by omega) _⟩
            · rw [HLG.out, HC.out]
              have := ho4.kept (grownBy_setRow w4 w1.heap.size s'.cells) (.inr (by simp [Value.ownBlock]; exact hne'))
              simpa [Mv.cells] using this
            · rw [cell_setRow_other _ _ _ _ (show w.heap.size ≠ w1.heap.size by omega)]; exact p4
            · rw [setRow_other _ _ _ _ (by omega)]; exact r4
          case measure => simp [intOf]; omega
        · have hno : stepM (progL W) (msOf W) (byteI sch k - 48) = none := by
            by_cases hc2 : 48 ≤ byteI sch k ∧ byteI sch k < 48 + W.prog.length
            · obtain ⟨t, htb⟩ : ∃ t : Nat, byteI sch k - 48 = t := ⟨(byteI sch k - 48).toNat, by omega⟩
              rw [htb, step_sim I (by omega), if_neg (fun h1 => hc ⟨hc2.1, hc2.2, by rw [htb, Int.toNat_natCast]; exact h1⟩)]
            · rw [stepM, if_neg (by rw [progL_len]; omega)]
          rw [if_neg (fun h => hc ⟨h.1, h.2.2.1, h.2.2.2⟩)] at hT
          subst hT
          rw [← hby] at hno
          simp only [hno, stepV, moveV] at hM
          clear hno hc HE hby
          go_wp2_with (first | (go_at_call 44; refine (hM _ (Below.refl _ _)).mono ?_; rintro e w2 ⟨rfl, hb2⟩; have hstN := storeS_run (s := msOf W) (heap_alloc_new w2 (.cells zeroS 79)) rfl ok; have hbX := Below.setRow (hb2.alloc hb2.size (.cells zeroS 79)) hb2.size (msOf W).cells; have r2 := (hbX.block _ hrl).trans r1; have q0 : ((w2.alloc (.cells zeroS 79)).setRow w2.heap.size (msOf W).cells).cell? ⟨w.heap.size + 1, 0, none⟩ = some (.slice none 0 0) := cellB r2 rfl; have q1 : ((w2.alloc (.cells zeroS 79)).setRow w2.heap.size (msOf W).cells).cell? ⟨w.heap.size + 1, 1, none⟩ = some (.slice none 0 0) := cellB r2 rfl; have z0 := frozen_of_row _ _ 0 _ _ r2; have z1 := frozen_of_row _ _ 1 _ _ r2))
          exact bodyPost_ret (v := .tuple #[.agg #[.slice none 0 0, .slice none 0 0], .bool false]) (by simp [results, Tryd.results28, go_sem, q0, q1]) rfl ⟨rfl, ((hBr.trans (hbX.mono hBr.size)).setCell (p := ⟨w.heap.size + 1, 0, none⟩) (by simp) _).setCell (p := ⟨w.heap.size + 1, 1, none⟩) (by simp) _⟩
      · have hke' : k = sch.size := by omega
        have kl : ¬ (k : Int) < (sch.size : Int) := by omega
        have hpo : res = some W := by have h := HE.out; rw [toLoop, if_neg hke] at h; exact h.symm
        subst hpo
        have hLW := listWants_any V W I.good wr B hpr
        have hwl := wantsE_len W W.prog.length
        clear HE
        go_wp2_with (first | (go_at_call 46; refine hLW.mono ?_; rintro e w2 ⟨g2, c2, rfl, hb2, ho2⟩; have r2 := (hb2.block _ hrl).trans r1; have q0 : w2.cell? ⟨w.heap.size + 1, 0, none⟩ = some (.slice none 0 0) := cellB r2 rfl; have q1 : w2.cell? ⟨w.heap.size + 1, 1, none⟩ = some (.slice none 0 0) := cellB r2 rfl; have z0 := frozen_of_row _ _ 0 _ _ r2; have z1 := frozen_of_row _ _ 1 _ _ r2))
        have hBw := hBr.trans (hb2.mono hBr.size)
        have ho := hown.kept (grownBy_of_below hb2) (.inr (by simp [Value.ownBlock]))
        have hl2 := hb2.size
        have o1 := ownsRow_setCell_below (ownsRow_setCell_below ho (a := ⟨w.heap.size + 1, 0, none⟩) (by simp) (.slice (some ⟨g, 0, none⟩) W.log.length cap)) (a := ⟨w.heap.size + 1, 1, none⟩) (by simp) (.slice (some ⟨g2, 0, none⟩) (wantsE W W.prog.length).length c2)
        have o2 := ownsRow_setCell_below (ownsRow_setCell_below ho2 (a := ⟨w.heap.size + 1, 0, none⟩) (by simp; omega) (.slice (some ⟨g, 0, none⟩) W.log.length cap)) (a := ⟨w.heap.size + 1, 1, none⟩) (by simp; omega) (.slice (some ⟨g2, 0, none⟩) (wantsE W W.prog.length).length c2)
        refine bodyPost_ret (v := .tuple #[.agg #[.slice (some ⟨g, 0, none⟩) W.log.length cap, .slice (some ⟨g2, 0, none⟩) (wantsE W W.prog.length).length c2], .bool true]) (by simp [results, Tryd.results28, go_sem, q0, q1]) rfl ⟨⟨g, cap, g2, c2, rfl, mvsAt_of_row o1, mvsAt_of_row o2, by have := (ho.lt g rfl).1; omega, by have := (ho2.lt g2 rfl).1; have := hBr.size; omega⟩, ?_⟩
        exact (hBw.setCell (p := ⟨w.heap.size + 1, 0, none⟩) (by simp) _).setCell (p := ⟨w.heap.size + 1, 1, none⟩) (by simp) _
end Go.Proofs.YtdfndcbakcmgiabDoor
