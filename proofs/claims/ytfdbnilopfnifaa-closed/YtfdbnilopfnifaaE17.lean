import Derived.Test.YtfdbnilopfnifaaE14
import Derived.Test.YtfdbnilopfnifaaD12
import Derived.Test.YtfdbnilopfnifaaT4
namespace Go.Proofs.Ytfdbnilopfnifaa
open Go.RowKit
attribute [local go_sem ↓] loadS_fold storeS_fold zeroS_fold

/-! Letters from a first one on, as bytes and as a text. -/
def letV (c : Nat) (l : List Nat) : List Value := l.map fun (k : Nat) => Value.int .u8 ((c : Int) + (k : Int))
def letS (c : Nat) (l : List Nat) : ByteArray := ⟨(l.map fun k => UInt8.ofNat (c + k)).toArray⟩
theorem strOf_let (c : Nat) (l : List Nat) : strOfNums (l.map fun (k : Nat) => ((c : Int) + (k : Int))) = letS c l := by
  have e : ∀ t : Nat, ((c : Int) + t).toNat = c + t := fun t => by omega
  simp only [strOfNums, letS, List.map_map, Function.comp_def, e]
theorem conv_let {w : World} {B g cap c : Nat} {l : List Nat} (h : w.ownsRow B 5 1 (.slice (some ⟨g, 0, none⟩) l.length cap) l.length (letV c l)) :
    (convert 89 9 (.slice (some ⟨g, 0, none⟩) l.length cap)).run Try.prog w = .ok (.string (letS c l)) w := by
  rw [← strOf_let]
  refine run_convert_bytes_arg (P := Try.prog) w 89 5 Try.underlying89 Try.underlying5 g 0 l.length cap _ (by simp) ?_ 9 Try.underlying9
  intro i hi
  have := h.cellAt i (by rw [Nat.mul_one]; exact hi)
  rw [Nat.zero_add, this]
  simp [letV, List.getD, hi]
theorem letS_snoc (c : Nat) (l : List Nat) (k : Nat) : letS c l ++ ⟨#[UInt8.ofNat (c + k)]⟩ = letS c (l ++ [k]) := by
  apply ByteArray.ext
  simp [letS]
theorem letV_snoc (c : Nat) (l : List Nat) (k : Nat) : letV c l ++ [Value.int .u8 ((c : Int) + (k : Int))] = letV c (l ++ [k]) := by simp [letV]
theorem lock_let (k : Nat) (h : k < 6) : lockS.extract k (k + 1) = ⟨#[UInt8.ofNat (97 + k)]⟩ := by
  have : k = 0 ∨ k = 1 ∨ k = 2 ∨ k = 3 ∨ k = 4 ∨ k = 5 := by omega
  rcases this with rfl | rfl | rfl | rfl | rfl | rfl <;> decide
theorem flag_let (k : Nat) (h : k < 6) : flagS.extract k (k + 1) = ⟨#[UInt8.ofNat (117 + k)]⟩ := by
  have : k = 0 ∨ k = 1 ∨ k = 2 ∨ k = 3 ∨ k = 4 ∨ k = 5 := by omega
  rcases this with rfl | rfl | rfl | rfl | rfl | rfl <;> decide

theorem ownI_eq (o : Option Nat) (t : Nat) : (ownI o == (t : Int)) = decide (o = some t) := by
  have h := ownI_ne o t
  rw [bne] at h
  cases hb : (ownI o == (t : Int)) <;> rw [hb] at h <;> simp at h <;> simp [h]

set_option maxRecDepth 100000 in
set_option maxHeartbeats 2000000 in
theorem HoldsM_any (s : MS) (ok : s.Ok) (t : Nat) (i : Int) (hi : i = t) (w : World) :
    Calls Try.prog 110 #[.agg s.cells, .int .i64 i] w fun e w' => e = .returned (.string (holdsLoop s.ow t 0 ⟨#[]⟩)) ∧ Below w.heap.size w w' := by
  subst hi
  have hst : StIn (w.alloc (.cells s.cells 95)) w.heap.size s := ⟨heap_alloc_new _ _, ok⟩
  have hbs : (w.alloc (.cells s.cells 95)).heap.size = w.heap.size + 1 := by simp
  generalize hres : holdsLoop s.ow t 0 ⟨#[]⟩ = res
  have HR : Hid (holdsLoop s.ow t 0 (letS 97 []) = res) := hres
  clear hres
  go_enter Try.func110, Try.ntmps110
  go_wp2
  go_loopw [5, 6] (fun v i wr => ∃ (k : Nat) (l : List Nat) (g cap : Nat), k ≤ 6 ∧ l.length ≤ k ∧ i = .int .i64 k ∧ v = .slice (some ⟨g, 0, none⟩) l.length cap ∧ wr.ownsRow (w.heap.size + 1) 5 1 (.slice (some ⟨g, 0, none⟩) l.length cap) l.length (letV 97 l) ∧ Hid (holdsLoop s.ow t k (letS 97 l) = res) ∧ Below (w.heap.size + 1) (w.alloc (.cells s.cells 95)) wr) (fun _ i _ => 6 - (intOf i).toNat)
  case atStart =>
    refine ⟨0, [], w.heap.size + 1, 0, by omega, by simp, rfl, rfl, ?_, HR, ?_⟩
    · have h := World.ownsRow_lit (w.alloc (.cells s.cells 95)) (base := w.heap.size + 1) (e := 5) (size := 1) #[] 0 (by simp) (Nat.zero_le _) rfl
      simpa [letV] using h
    · rw [← hbs]; exact (Below.refl _ _).alloc (Nat.le_refl _) _
  case round =>
    obtain ⟨k, l, g, cap, hk, hlk, rfl, rfl, hown, HE, hB⟩ := hrel
    have hB' : Below (w.alloc (.cells s.cells 95)).heap.size (w.alloc (.cells s.cells 95)) wr := by rw [hbs]; exact hB
    have hsr := hst.below hB'
    have hgl := hown.lt g rfl
    clear HR hst
    by_cases hk6 : k < 6
    · obtain ⟨o, ho⟩ : ∃ o, s.ow[k]? = some o := ⟨s.ow[k]'(by rw [ok.n3]; omega), by simp⟩
      have c10 := hsr.ow ho
      have heq := ownI_eq o t
      have k0 : (0 : Int) ≤ (k : Int) := by omega
      have k6 : (k : Int) < 6 := by omega
      have HE1 : Hid (holdsLoop s.ow t (k + 1) (if o = some t then letS 97 (l ++ [k]) else letS 97 l) = res) := by
        have h := HE.out
        rw [holdsLoop, if_pos hk6, ho, Option.getD_some, lock_let k hk6, letS_snoc] at h
        exact h
      clear HE ho
      by_cases hot : o = some t
      · rw [if_pos hot] at HE1
        subst hot
        have c11 : wr.cell? ⟨w.heap.size, 10 + k, none⟩ = some (.int .i64 (t : Int)) := c10
        clear heq c10
        go_wp2_with (at_builtin; go_loud (refine wpList_appendLit _ rfl _ _ 89 rfl (w.heap.size + 1) 5 (.int .u8 0) 1 1 Try.underlying89 infoU8 rfl (by decide) _ _ _ rfl hown _ _ rfl rfl rfl ?c2 ?c3 ?c4 ?c5 ?_))
        case c2 => rfl
        case c3 => omega
        case c4 => omega
        case c5 => have := hB'.size; rw [hbs] at this; exact this
        intro v' w3 ho3 hg3 hf3 hn3
        have hB3 := below_grown (hB.alloc (by have := hB'.size; rw [hbs] at this; exact this) _) (by have := hB'.size; rw [hbs] at this; simp; omega) hg3 (fun k hk => by simp [Value.ownBlock] at hk; omega)
        obtain ⟨g', cap', hv3⟩ := row_form ho3 hn3
        subst hv3
        clear hg3 hf3 hn3 hown
        go_wp2
        go_roundw
        case rel =>
          refine ⟨k + 1, l ++ [k], g', cap', by omega, by simp; omega, rfl, by simp, ?_, HE1, hB3⟩
          rw [← letV_snoc]
          simpa using ho3
        case measure => simp [intOf]; omega
      · rw [if_neg hot] at HE1
        rw [decide_eq_false hot] at heq
        go_wp2
        go_roundw
        case rel => exact ⟨k + 1, l, g, cap, by omega, by omega, rfl, rfl, hown, HE1, hB⟩
        case measure => simp [intOf]; omega
    · have hke : k = 6 := by omega
      subst hke
      have hres : res = letS 97 l := by have h := HE.out; rw [holdsLoop, if_neg (by omega)] at h; exact h.symm
      subst hres
      have hcv := conv_let hown
      clear HE
      go_wp2
      go_ret
      exact ⟨rfl, ((Below.refl w.heap.size w).alloc (Nat.le_refl _) _).trans (hB.mono (by omega))⟩
end Go.Proofs.Ytfdbnilopfnifaa
namespace Go.Proofs.Ytfdbnilopfnifaa
open Go.RowKit
attribute [local go_sem ↓] loadS_fold storeS_fold zeroS_fold

def storeV (p v : Value) : Sem Unit := Instr.storeAt 142 p v
theorem storeV_fold (p v : Value) : Instr.storeAt 142 p v = storeV p v := rfl
theorem Mv.one (m : Mv) : ∀ v ∈ m.cells, v.oneCell' = true := by
  intro v hv
  simp only [Mv.cells, List.mem_toArray, List.mem_cons, List.not_mem_nil, or_false] at hv
  rcases hv with rfl | rfl | rfl | rfl | rfl | rfl <;> rfl
theorem storeV_run {w : World} {g : Nat} {old : Array Value} {ty : TypeId} {m : Mv} (h : w.heap[g]? = some (.cells old ty (0, 0))) (ho : old.size = 6) :
    (storeV (.pointer (some ⟨g, 0, none⟩)) (.agg m.cells)).run Try.prog w = .ok () (w.setRow g m.cells) := by
  simp only [Go.Proofs.Ytfdbnilopfnifaa.storeV, Instr.storeAt, Instr.sureAddr, Sem.run_bind, Sem.run_pure, Result.andThen]
  exact run_storeVar_row w g ty _ old m.cells h info6 ho (Array.all_eq_true_iff_forall_mem.2 fun v hv => m.one v hv)
abbrev zeroMv : Array Value := #[.int .i64 0, .int .i64 0, .int .i64 0, .int .i64 0, .int .i64 0, .string ⟨#[]⟩]
attribute [local go_sem ↓] storeV_fold

set_option maxRecDepth 100000 in
set_option maxHeartbeats 2000000 in
theorem moveOf_in (V : Value) (L : List (List Stp)) (s : MS) (ok : s.Ok) (w : World) (B : Nat) (hp : ProgIn w B V L) (hL : L.length ≤ 5) (t n : Nat) (ht : t < L.length) (i : Int) (hi : i = t) (hn : s.pl[t]? = some n) (x : Stp) (hx : L[t][n]? = some x) :
    Calls Try.prog 111 #[.agg #[V], .agg s.cells, .int .i64 i] w fun e w' => e = .returned (.agg (Mv.cells ⟨t, n, x, holdsLoop s.ow t 0 ⟨#[]⟩⟩)) ∧ Below w.heap.size w w' := by
  subst hi
  have hp2 : ProgIn (boxes w V s) B V L := (hp.alloc (.cells #[V] 72)).alloc (.cells s.cells 95)
  have hp3 := hp2.alloc (.cells zeroMv 142)
  have hN := fun w' hw => Next_in V L s ok w' B (ProgIn.below hp3 (w' := w') hw) hL t n ht _ rfl hn x hx
  have hH := fun w => HoldsM_any s ok t _ rfl w
  have hst : StIn (boxes w V s) (w.heap.size + 1) s := ⟨heap_alloc2_new _ _ _, ok⟩
  have hst3 := hst.below ((Below.refl _ _).alloc (Nat.le_refl _) (.cells zeroMv 142))
  have hld := hst3.loadS
  have hc0 : (boxes w V s).cell? ⟨w.heap.size, 0, none⟩ = some V := cellB (heap_alloc2_old _ _ _) rfl
  have hc1 := cell_later ((Below.refl _ _).alloc (Nat.le_refl _) (.cells zeroMv 142)) hc0
  have hr : ((boxes w V s).alloc (.cells zeroMv 142)).heap[w.heap.size + 2]? = some (.cells zeroMv 142) := by
    have := heap_alloc_new (boxes w V s) (.cells zeroMv 142)
    simpa using this
  have hB0 : Below w.heap.size w ((boxes w V s).alloc (.cells zeroMv 142)) := (two_new ((Below.refl _ _).alloc (Nat.le_refl _) _)).2.2.1
  generalize holdsLoop s.ow t 0 ⟨#[]⟩ = hs at *
  clear hp2 hp3 hp hc0 hst
  go_enter Try.func111, Try.ntmps111
  go_upto_region 2 with (first | (go_at_call 107; refine (hN _ (Below.refl _ _)).mono ?_; rintro e w1 ⟨he, hb⟩; rw [nextV, stpV] at he; subst he))
  obtain ⟨n0, n1, n2⟩ := new3_get w1 (.int .i64 x.kind) (.int .i64 x.which) (.int .i64 x.count) 140
  have hb1 := hb.alloc hb.size (.cells #[.int .i64 x.kind, .int .i64 x.which, .int .i64 x.count] 140)
  have hsX := hst3.below hb1
  have hrX := (hb1.block (w.heap.size + 2) (Array.getElem?_eq_some_iff.1 hr).1).trans hr
  have hBX := hB0.trans (hb1.mono hB0.size)
  have hlt : w.heap.size + 3 ≤ w1.heap.size := by have := hb.size; simp at this; omega
  have hlX := (Array.getElem?_eq_some_iff.1 hrX).1
  generalize w1.alloc (.cells #[.int .i64 x.kind, .int .i64 x.which, .int .i64 x.count] 140) = X at *
  clear hN hld hc1 hr hB0 hb hb1 hst3
  go_region_held3 (fun w' => w'.cell? ⟨w1.heap.size, 0, none⟩ = some (.int .i64 x.kind) ∧ w'.cell? ⟨w1.heap.size, 1, none⟩ = some (.int .i64 x.which) ∧ w'.cell? ⟨w1.heap.size, 2, none⟩ = some (.int .i64 x.count) ∧ (loadS (.pointer (some ⟨w.heap.size + 1, 0, none⟩))).run Try.prog w' = .ok (.agg s.cells) w')
    (first | (refine ⟨cell_later ?_ n0, cell_later ?_ n1, cell_later ?_ n2, (hsX.below ?_).loadS⟩ <;> first | exact Below.refl _ _ | exact (Below.refl _ _).drew | exact hx1 | exact hx1.drew) | exact ⟨by rw [cell_setRow_other _ _ _ _ (show w1.heap.size ≠ w.heap.size + 2 by omega)]; exact cell_later hx1 n0, by rw [cell_setRow_other _ _ _ _ (show w1.heap.size ≠ w.heap.size + 2 by omega)]; exact cell_later hx1 n1, by rw [cell_setRow_other _ _ _ _ (show w1.heap.size ≠ w.heap.size + 2 by omega)]; exact cell_later hx1 n2, ((hsX.below hx1).row (by omega) _).loadS⟩)
    (first | (go_at_call 110; refine (hH _).mono ?_; rintro e w2 ⟨rfl, hbb⟩; have hx1 : Below X.heap.size X w2 := (by first | exact hbb | exact below_of_drew hbb); have hrow := (hx1.block _ hlX).trans hrX; have hsv := storeV_run (m := ⟨t, n, x, hs⟩) hrow rfl; simp only [Mv.cells] at hsv))
  go_wp2
  exact bodyPost_ret (v := .agg (Mv.cells ⟨t, n, x, hs⟩)) (results_cell_row Try.results111 _ _ (w.heap.size + 2) _ _ _ _ rfl (setRow_heap _ _ _ _ _ _ hrow) Try.underlying142 rfl info6) rfl ⟨rfl, below_setRow (hBX.trans (hx1.mono hBX.size)) (by omega) _⟩
end Go.Proofs.Ytfdbnilopfnifaa
namespace Go.Proofs.Ytfdbnilopfnifaa
open Go.RowKit
attribute [local go_sem ↓] loadS_fold storeS_fold zeroS_fold

/-! The program's trace, against the reference's world. -/
def mvE (e : Ev) : Mv := ⟨e.thread.toNat, e.place.toNat, stpOf e.txt, e.holds⟩
/-- The move that thread t is at, as an event. -/
def evAt (W : Wd) (t : Nat) : Ev := ⟨t, (W.place[t]?.getD 0 : Nat), (W.prog[t]?.getD [])[W.place[t]?.getD 0]?.getD ⟨#[]⟩, holdsOf W t⟩
def mvCells (l : List Ev) : List Value := l.flatMap fun e => (mvE e).cells.toList
theorem mvCells_snoc (l : List Ev) (e : Ev) : mvCells (l ++ [e]) = mvCells l ++ (mvE e).cells.toList := by simp [mvCells]
theorem infoMv : (Try.prog.info? 142).map (fun i => (i.zero, i.size, i.bytes)) = some (some (.agg zeroMv), 6, 56) := by kernel_rfl
/-- The asks that wait, among the first t threads. -/
def wantsE (W : Wd) (t : Nat) : List Ev := ((List.range t).filter fun u => decide (stateOf W u = 2)).map (evAt W)
theorem wantsE_yes {W : Wd} {t : Nat} (h : stateOf W t = 2) : wantsE W (t + 1) = wantsE W t ++ [evAt W t] := by simp [wantsE, List.range_succ, h]
theorem wantsE_no {W : Wd} {t : Nat} (h : stateOf W t ≠ 2) : wantsE W (t + 1) = wantsE W t := by simp [wantsE, List.range_succ, h]
theorem wantsE_len (W : Wd) (t : Nat) : (wantsE W t).length ≤ t := by
  rw [wantsE, List.length_map]
  exact Nat.le_trans (List.length_filter_le _ _) (by simp)

theorem moveOf_W (V : Value) (W : Wd) (G : W.Good) (w : World) (B : Nat) (hp : ProgIn w B V (progL W)) (t : Nat) (ht : t < W.prog.length) (hs : stateOf W t = 1 ∨ stateOf W t = 2) (i : Int) (hi : i = t) :
    Calls Try.prog 111 #[.agg #[V], .agg (msOf W).cells, .int .i64 i] w fun e w' => e = .returned (.agg (mvE (evAt W t)).cells) ∧ Below w.heap.size w w' := by
  obtain ⟨n, l, d, A, _⟩ := stateOf_at W t (by omega) (by omega) G ht
  have hx : (progL W)[t]'(by rw [progL_len]; exact ht) = l.map stpOf := by
    have h := progL_get W t
    rw [A.prog, Option.getD_some, List.getElem?_eq_getElem (by rw [progL_len]; exact ht), Option.getD_some] at h
    exact h
  have h := moveOf_in V (progL W) (msOf W) (msOf_ok G) w B hp (by rw [progL_len]; exact G.n5) t n (by rw [progL_len]; exact ht) i hi (by rw [msOf_pl G ht, A.place]) (stpOf d) (by rw [hx, List.getElem?_map, A.txt]; rfl)
  have e : mvE (evAt W t) = ⟨t, n, stpOf d, holdsLoop (msOf W).ow t 0 ⟨#[]⟩⟩ := by
    simp only [mvE, evAt, A.place, A.prog, A.txt, Option.getD_some, Int.toNat_natCast]
    rfl
  rw [e]; exact h

set_option maxRecDepth 100000 in
set_option maxHeartbeats 4000000 in
theorem listWants_any (V : Value) (W : Wd) (G : W.Good) (w : World) (B : Nat) (hp : ProgIn w B V (progL W)) :
    Calls Try.prog 112 #[.agg #[V], .agg (msOf W).cells] w fun e w' => ∃ g cap, e = .returned (.slice (some ⟨g, 0, none⟩) (wantsE W W.prog.length).length cap) ∧ Below w.heap.size w w' ∧
      w'.ownsRow (w.heap.size + 2) 142 6 (.slice (some ⟨g, 0, none⟩) (wantsE W W.prog.length).length cap) (wantsE W W.prog.length).length (mvCells (wantsE W W.prog.length)) := by
  have ok := msOf_ok G
  have HP : Hid (ProgIn (boxes w V (msOf W)) B V (progL W)) := (hp.alloc (.cells #[V] 72)).alloc (.cells (msOf W).cells 95)
  have hst : StIn (boxes w V (msOf W)) (w.heap.size + 1) (msOf W) := ⟨heap_alloc2_new _ _ _, ok⟩
  have hc1 : (boxes w V (msOf W)).cell? ⟨w.heap.size, 0, none⟩ = some V := cellB (heap_alloc2_old _ _ _) rfl
  have hbs : (boxes w V (msOf W)).heap.size = w.heap.size + 2 := by simp
  have hB0 : Below w.heap.size w (boxes w V (msOf W)) := (two_new (Below.refl _ _)).2.2.1
  have hn5 := G.n5
  have HG : Hid (W.Good) := G
  clear hp G
  go_enter Try.func112, Try.ntmps112
  go_wp2
  go_loopw [5, 6] (fun v i wr => ∃ t g cap : Nat, t ≤ W.prog.length ∧ i = .int .i64 t ∧ v = .slice (some ⟨g, 0, none⟩) (wantsE W t).length cap ∧ wr.ownsRow (w.heap.size + 2) 142 6 (.slice (some ⟨g, 0, none⟩) (wantsE W t).length cap) (wantsE W t).length (mvCells (wantsE W t)) ∧ Below (w.heap.size + 2) (boxes w V (msOf W)) wr) (fun _ i _ => W.prog.length - (intOf i).toNat)
  case atStart =>
    refine ⟨0, w.heap.size + 2, 0, by omega, rfl, rfl, ?_, ?_⟩
    · have h := World.ownsRow_lit (boxes w V (msOf W)) (base := w.heap.size + 2) (e := 142) (size := 6) #[] 0 (by simp) (Nat.zero_le _) rfl
      simpa [wantsE, mvCells] using h
    · rw [← hbs]; exact (Below.refl _ _).alloc (Nat.le_refl _) _
  case round =>
    obtain ⟨t, g, cap, ht, rfl, rfl, hown, hB⟩ := hrel
    have hB' : Below (boxes w V (msOf W)).heap.size (boxes w V (msOf W)) wr := by rw [hbs]; exact hB
    have hsz : w.heap.size + 2 ≤ wr.heap.size := by rw [← hbs]; exact hB'.size
    have hsr := hst.below hB'
    have p0 := cell_later hB' hc1
    have hT := Threads_any V (progL W) wr B (HP.out.below hB')
    rw [progL_len] at hT
    have hgl := hown.lt g rfl
    by_cases htn : t < W.prog.length
    · have htl : (t : Int) < (W.prog.length : Int) := by omega
      have hLk := fun w' hw => Look_in V (progL W) (msOf W) ok w' B ((HP.out.below hB').below (w' := w') hw) (by rw [progL_len]; exact hn5) (progL_po HG.out).sok t (by rw [progL_len]; exact htn) _ rfl
      rw [look_sim HG.out htn] at hLk
      have hlw := wantsE_len W t
      by_cases h2 : stateOf W t = 2
      · have hV := fun w' hw => moveOf_W V W HG.out w' B ((HP.out.below hB').below (w' := w') hw) t htn (.inr h2) _ rfl
        have HTH : Hid (wantsE W (t + 1) = wantsE W t ++ [evAt W t]) := wantsE_yes h2
        rw [h2] at hLk
        generalize waitsOf W t = wt at *
        generalize hev : evAt W t = ev at *
        generalize hwl : wantsE W t = wl at *
        have HC : Hid (mvCells (wl ++ [ev]) = mvCells wl ++ (mvE ev).cells.toList) := mvCells_snoc _ _
        generalize mvE ev = mv at *
        obtain ⟨th, pl, ⟨k, i, c⟩, hh⟩ := mv
        simp only [Mv.cells] at hV
        clear hev hwl h2
        go_wp2_with (first
          | (go_at_call 85; refine hT.mono ?_; rintro e w1 ⟨rfl, hb1⟩; have p1 := cell_later hb1 p0; have hld := (hsr.below hb1).loadS)
          | (go_at_call 106; refine (hLk _ hb1).mono ?_; rintro e w2 ⟨he, hb2⟩; rw [pairV] at he; subst he; have hB2 := hb1.trans (hb2.mono hb1.size); have p2 := cell_later hB2 p0; have hld2 := (hsr.below hB2).loadS)
          | (go_at_call 111; refine (hV _ hB2).mono ?_; rintro e w3 ⟨rfl, hb3⟩; have hB3 := hB2.trans (hb3.mono hB2.size); have hown2 := hown.kept (grownBy_of_below hB3) (.inr (by simp [Value.ownBlock])))
          | (at_builtin; go_loud (refine wpList_appendLit _ rfl _ _ 102 rfl (w.heap.size + 2) 142 (.agg zeroMv) 6 56 Try.underlying102 infoMv rfl (by decide) _ _ _ rfl hown2 _ _ rfl rfl ?c1 ?c2 ?c3 ?c4 ?c5 ?_)))
        case c1 => rfl
        case c2 => exact ⟨rfl, rfl, rfl, rfl, rfl, rfl⟩
        case c3 => omega
        case c4 => omega
        case c5 => have := hB3.size; omega
        intro v' w4 ho4 hg4 hf4 hn4
        have h1 := hB.trans (hB3.mono hsz)
        have hsz3 := hB3.size
        have hB4 : Below (w.heap.size + 2) (boxes w V (msOf W)) w4 := below_grown (h1.alloc (by omega) _) (by simp; omega) hg4 (fun k hk => by simp [Value.ownBlock] at hk; omega)
        obtain ⟨g', cap', hv4⟩ := row_form ho4 hn4
        subst hv4
        clear hg4 hf4 hn4 hown hown2
        go_wp2
        go_roundw
        case rel =>
          refine ⟨t + 1, g', cap', by omega, rfl, by rw [HTH.out]; simp, ?_, hB4⟩
          rw [HTH.out, HC.out]
          simpa [Mv.cells] using ho4
        case measure => simp [intOf]; omega
      · have HTH : Hid (wantsE W (t + 1) = wantsE W t) := wantsE_no h2
        have hb2' : (stateOf W t == 2) = false := beq_false_of_ne h2
        generalize stateOf W t = st at *
        generalize waitsOf W t = wt at *
        clear h2
        go_wp2_with (first
          | (go_at_call 85; refine hT.mono ?_; rintro e w1 ⟨rfl, hb1⟩; have p1 := cell_later hb1 p0; have hld := (hsr.below hb1).loadS)
          | (go_at_call 106; refine (hLk _ hb1).mono ?_; rintro e w2 ⟨he, hb2⟩; rw [pairV] at he; subst he; have hB2 := hb1.trans (hb2.mono hb1.size)))
        go_roundw
        case rel =>
          have hown2 := hown.kept (grownBy_of_below hB2) (.inr (by simp [Value.ownBlock]))
          refine ⟨t + 1, g, cap, by omega, rfl, by rw [HTH.out], ?_, hB.trans (hB2.mono hsz)⟩
          rw [HTH.out]; exact hown2
        case measure => simp [intOf]; omega
    · have hte : t = W.prog.length := by omega
      have htl : ¬ (t : Int) < (W.prog.length : Int) := by omega
      go_wp2_with (first
        | (go_at_call 85; refine hT.mono ?_; rintro e w1 ⟨rfl, hb1⟩))
      subst hte
      have ho2 := hown.kept (grownBy_of_below hb1) (.inr (by simp [Value.ownBlock]))
      go_ret
      exact ⟨g, cap, rfl, hB0.trans ((hB'.trans (hb1.mono hB'.size)).mono hB0.size), ho2⟩
end Go.Proofs.Ytfdbnilopfnifaa
namespace Go.Proofs.Ytfdbnilopfnifaa
open Go.RowKit

theorem refReplay_err (s sch : ByteArray) (w : World) (h : (ckP s).1 ≠ 0) :
    Calls Try.prog 20 #[.string s, .string sch] w fun e w' => e = .returned (.tuple #[.agg #[.slice none 0 0, .string ⟨#[]⟩], .int .i64 (ckP s).1]) ∧ Below w.heap.size w w' := by
  have hwd := fun w => world_err s sch w h
  generalize (ckP s).1 = a at *
  have ha : (a != 0) = true := by simpa using h
  go_enter Try.func20, Try.ntmps20
  go_wp2_with (go_at_call 49; refine (hwd _).mono ?_; rintro e w1 ⟨rfl, hb⟩; obtain ⟨hc, hf, hz, hB⟩ := below_new hb; have c0 : w1.cell? ⟨w.heap.size, 0, none⟩ = some (.slice none 0 0) := hc 0 _ rfl; have c1 : w1.cell? ⟨w.heap.size, 1, none⟩ = some (.string ⟨#[]⟩) := hc 1 _ rfl; clear hc hb)
  exact bodyPost_ret (v := .tuple #[.agg #[.slice none 0 0, .string ⟨#[]⟩], .int .i64 a]) (by simp [results, Try.results20, go_sem, c0, c1]) rfl ⟨rfl, (hB.setCell (p := ⟨w.heap.size, 0, none⟩) (Nat.le_refl _) _).setCell (p := ⟨w.heap.size, 1, none⟩) (Nat.le_refl _) _⟩

theorem refReplay_none (s sch : ByteArray) (w : World) (h : (ckP s).1 = 0) (hs : s.size ≤ 160) (hsch : sch.size ≤ maxLen) (I0 : (beginW (thLoop s 0 0 [])).Inv) (hW : toLoop sch (beginW (thLoop s 0 0 [])) 0 = none) :
    Calls Try.prog 20 #[.string s, .string sch] w fun e w' => e = .returned (.tuple #[.agg #[.slice none 0 0, .string ⟨#[]⟩], .int .i64 5]) ∧ Below w.heap.size w w' := by
  have hwd := fun w => world_none s sch w h hs hsch I0 hW
  go_enter Try.func20, Try.ntmps20
  go_wp2_with (go_at_call 49; refine (hwd _).mono ?_; rintro e w1 ⟨rfl, hb⟩; obtain ⟨hc, hf, hz, hB⟩ := below_new hb; have c0 : w1.cell? ⟨w.heap.size, 0, none⟩ = some (.slice none 0 0) := hc 0 _ rfl; have c1 : w1.cell? ⟨w.heap.size, 1, none⟩ = some (.string ⟨#[]⟩) := hc 1 _ rfl; clear hc hb)
  exact bodyPost_ret (v := .tuple #[.agg #[.slice none 0 0, .string ⟨#[]⟩], .int .i64 5]) (by simp [results, Try.results20, go_sem, c0, c1]) rfl ⟨rfl, (hB.setCell (p := ⟨w.heap.size, 0, none⟩) (Nat.le_refl _) _).setCell (p := ⟨w.heap.size, 1, none⟩) (Nat.le_refl _) _⟩

set_option maxHeartbeats 1000000 in
theorem refReplay_ok (s sch : ByteArray) (w : World) (h : (ckP s).1 = 0) (hs : s.size ≤ 160) (hsch : sch.size ≤ maxLen) (I0 : (beginW (thLoop s 0 0 [])).Inv) (W : Wd) (hW : toLoop sch (beginW (thLoop s 0 0 [])) 0 = some W) :
    Calls Try.prog 20 #[.string s, .string sch] w fun e w' => ∃ g cap, e = .returned (.tuple #[.agg #[.slice (some ⟨g, 0, none⟩) W.prog.length cap, .string (flagsLoop W.set 0 ⟨#[]⟩)], .int .i64 0]) ∧ Below w.heap.size w w' ∧
      w'.ownsRow (w.heap.size + 1) 64 4 (.slice (some ⟨g, 0, none⟩) W.prog.length cap) W.prog.length ((thsOf W W.prog.length).flatMap thCells) := by
  have hwd := fun w => world_ok s sch w h hs hsch I0 W hW
  go_enter Try.func20, Try.ntmps20
  go_wp2_with (go_at_call 49; refine (hwd _).mono ?_; rintro e w1 ⟨p, rfl, hb, hR, I⟩; obtain ⟨hc, hf, hz, hB⟩ := below_new hb; have c0 : w1.cell? ⟨w.heap.size, 0, none⟩ = some (.slice none 0 0) := hc 0 _ rfl; have c1 : w1.cell? ⟨w.heap.size, 1, none⟩ = some (.string ⟨#[]⟩) := hc 1 _ rfl; clear hc hb)
  obtain ⟨_, _, _, _, _, _, _, _, _, _, _, _, hWi⟩ := hR.wIn I.good.ok
  have hv := view_any p W w1 hWi I.good
  have hnp := I.good.ok.np
  clear hwd hR hWi
  refine hv.mono ?_
  rintro e w2 ⟨vT, rfl, hb2, ho2⟩
  have d0 := cell_later hb2 c0
  have d1 := cell_later hb2 c1
  have z0 := frozen_later hb2 c0 (hf 0)
  have z1 := frozen_later hb2 c1 (hf 1)
  obtain ⟨g, cap, hvv, hBg, _⟩ := ownsRow_form ho2 hnp
  subst hvv
  go_wp2
  refine bodyPost_ret (v := .tuple #[.agg #[.slice (some ⟨g, 0, none⟩) W.prog.length cap, .string (flagsLoop W.set 0 ⟨#[]⟩)], .int .i64 0]) (by simp [results, Try.results20, go_sem, d0, d1]) rfl ⟨g, cap, rfl, ?_, ?_⟩
  · exact ((hB.trans (hb2.mono hB.size)).setCell (p := ⟨w.heap.size, 0, none⟩) (Nat.le_refl _) _).setCell (p := ⟨w.heap.size, 1, none⟩) (Nat.le_refl _) _
  · have h1 : w2.ownsRow (w.heap.size + 1) 64 4 (.slice (some ⟨g, 0, none⟩) W.prog.length cap) W.prog.length ((thsOf W W.prog.length).flatMap thCells) := by
      obtain ⟨k1, k2⟩ := ho2
      refine ⟨k1, ?_⟩
      rcases k2 with k2 | ⟨g', cap', cur, a, b, c⟩
      · exact .inl k2
      · exact .inr ⟨g', cap', cur, a, by omega, c⟩
    exact ownsRow_setCell_below (ownsRow_setCell_below h1 (a := ⟨w.heap.size, 0, none⟩) (by simp) _) (a := ⟨w.heap.size, 1, none⟩) (by simp) _
end Go.Proofs.Ytfdbnilopfnifaa
