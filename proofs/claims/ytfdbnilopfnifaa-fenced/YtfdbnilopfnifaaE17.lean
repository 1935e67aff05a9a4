import Derived.Test.YtfdbnilopfnifaaE14
import Derived.Test.YtfdbnilopfnifaaD12
import Derived.Test.YtfdbnilopfnifaaT4
namespace Go.Proofs.Ytfdbnilopfnifaa
open Go.RowKit
attribute [local go_sem ↓] loadS_fold storeS_fold zeroS_fold

/-! Letters from a first one on, as bytes and as a text. -/
def letV (c : Nat) (l : List Nat) : List Value := l.map fun (k : Nat) => Value.int .u8 ((c : Int) + (k : Int))
def letS (c : Nat) (l : List Nat) : ByteArray := ⟨(l.map fun k => UInt8.ofNat (c + k)).toArray⟩
theorem strOf_let (c : Nat) (l : List Nat) : strOfNums (l.map fun (k : Nat) => ((c : Int) + (k : Int))) = letS c l := by
  have e : ∀ t : Nat, ((c : Int) + t).toNat = c + t := fun t => by omega
  simp only [strOfNums, letS, List.map_map, Function.comp_def, e]
theorem conv_let {w : World} {B g cap c : Nat} {l : List Nat} (h : w.ownsRow B 5 1 (.slice (some ⟨g, 0, none⟩) l.length cap) l.length (letV c l)) :
    (convert 89 9 (.slice (some ⟨g, 0, none⟩) l.length cap)).run Try.prog w = .ok (.string (letS c l)) w := by
  rw [← strOf_let]
  refine run_convert_bytes_arg (P := Try.prog) w 89 5 Try.underlying89 Try.underlying5 g 0 l.length cap _ (by simp) ?_ 9 Try.underlying9
  intro i hi
  have := h.cellAt i (by rw [Nat.mul_one]; exact hi)
  rw [Nat.zero_add, this]
  simp [letV, List.getD, hi]
theorem letS_snoc (c : Nat) (l : List Nat) (k : Nat) : letS c l ++ ⟨#[UInt8.ofNat (c + k)]⟩ = letS c (l ++ [k]) := by
  apply ByteArray.ext
  simp [letS]
theorem letV_snoc (c : Nat) (l : List Nat) (k : Nat) : letV c l ++ [Value.int .u8 ((c : Int) + (k : Int))] = letV c (l ++ [k]) := by simp [letV]
theorem lock_let (k : Nat) (h : k < 6) : lockS.extract k (k + 1) = ⟨#[UInt8.ofNat (97 + k)]⟩ := by
  have : k = 0 ∨ k = 1 ∨ k = 2 ∨ k = 3 ∨ k = 4 ∨ k = 5 := by omega
  rcases this with rfl | rfl | rfl | rfl | rfl | rfl <;> decide
theorem flag_let (k : Nat) (h : k < 6) : flagS.extract k (k + 1) = ⟨#[UInt8.ofNat (117 + k)]⟩ := by
  have : k = 0 ∨ k = 1 ∨ k = 2 ∨ k = 3 ∨ k = 4 ∨ k = 5 := by omega
  rcases this with rfl | rfl | rfl | rfl | rfl | rfl <;> decide

theorem ownI_eq (o : Option Nat) (t : Nat) : (ownI o == (t : Int)) = decide (o = some t) := by
  have h := ownI_ne o t
  rw [bne] at h
  cases hb : (ownI o == (t : Int)) <;> rw [hb] at h <;> simp at h <;> simp [h]

set_option maxRecDepth 100000 in
set_option maxHeartbeats 2000000 in
theorem HoldsM_any (s : MS) (ok : s.Ok) (t : Nat) (i : Int) (hi : i = t) (w : World) :
    Calls Try.prog 110 #[.agg s.cells, .int .i64 i] w fun e w' => e = .returned (.string (holdsLoop s.ow t 0 ⟨#[]⟩)) ∧ Below w.heap.size w w' := by
  subst hi
  have hst : StIn (w.alloc (.cells s.cells 95)) w.heap.size s := ⟨heap_alloc_new _ _, ok⟩
  have hbs : (w.alloc (.cells s.cells 95)).heap.size = w.heap.size + 1 := by simp
  generalize hres : holdsLoop s.ow t 0 ⟨#[]⟩ = res
  have HR : Hid (holdsLoop s.ow t 0 (letS 97 []) = res) := hres
  clear hres
  go_enter Try.func110, Try.ntmps110
  go_wp2
  go_loopw [5, 6] (fun v i wr => ∃ (k : Nat) (l : List Nat) (g cap : Nat), k ≤ 6 ∧ l.length ≤ k ∧ i = .int .i64 k ∧ v = .slice (some ⟨g, 0, none⟩) l.length cap ∧ wr.ownsRow (w.heap.size + 1) 5 1 (.slice (some ⟨g, 0, none⟩) l.length cap) l.length (letV 97 l) ∧ Hid (holdsLoop s.ow t k (letS 97 l) = res) ∧ Below (w.heap.size + 1) (w.alloc (.cells s.cells 95)) wr) (fun _ i _ => 6 - (intOf i).toNat)
  case atStart =>
    refine ⟨0, [], w.heap.size + 1, 0, by omega, by simp, rfl, rfl, ?_, HR, ?_⟩
    · have h := World.ownsRow_lit (w.alloc (.cells s.cells 95)) (base := w.heap.size + 1) (e := 5) (size := 1) #[] 0 (by simp) (Nat.zero_le _) rfl
      simpa [letV] using h
    · rw [← hbs]; exact (Below.refl _ _).alloc (Nat.le_refl _) _
  case round =>
    obtain ⟨k, l, g, cap, hk, hlk, rfl, rfl, hown, HE, hB⟩ := hrel
    have hB' : Below (w.alloc (.cells s.cells 95)).heap.size (w.alloc (.cells s.cells 95)) wr := by rw [hbs]; exact hB
    have hsr := hst.below hB'
    have hgl := hown.lt g rfl
    clear HR hst
    by_cases hk6 : k < 6
    · obtain ⟨o, ho⟩ : ∃ o, s.ow[k]? = some o := ⟨s.ow[k]'(by rw [ok.n3]; omega), by simp⟩
      have c10 := hsr.ow ho
      have heq := ownI_eq o t
      have k0 : (0 : Int) ≤ (k : Int) := by omega
      have k6 : (k : Int) < 6 := by omega
      have HE1 : Hid (holdsLoop s.ow t (k + 1) (if o = some t then letS 97 (l ++ [k]) else letS 97 l) = res) := by
        have h := HE.out
        rw [holdsLoop, if_pos hk6, ho, Option.getD_some, lock_let k hk6, letS_snoc] at h
        exact h
      clear HE ho
      by_cases hot : o = some t
      · rw [if_pos hot] at HE1
        subst hot
        have c11 : wr.cell? ⟨w.heap.size, 10 + k, none⟩ = some (.int .i64 (t : Int)) := c10
        clear heq c10
        go_wp2_with (at_builtin; go_loud (refine wpList_appendLit _ rfl _ _ 89 rfl (w.heap.size + 1) 5 (.int .u8 0) 1 1 Try.underlying89 infoU8 rfl (by decide) _ _ _ rfl hown _ _ rfl rfl rfl ?c2 ?c3 ?c4 ?c5 ?_))
        case c2 => rfl
        case c3 => omega
        case c4 => omega
        case c5 => have := hB'.size; rw [hbs] at this; exact this
        intro v' w3 ho3 hg3 hf3 hn3
        have hB3 := below_grown (hB.alloc (by have := hB'.size; rw [hbs] at this; exact this) _) (by have := hB'.size; rw [hbs] at this; simp; omega) hg3 (fun k hk => by simp [Value.ownBlock] at hk; omega)
        obtain ⟨g', cap', hv3⟩ := row_form ho3 hn3
        subst hv3
        clear hg3 hf3 hn3 hown
        go_wp2
        go_roundw
        case rel =>
          refine ⟨k + 1, l ++ [k], g', cap', by omega, by simp; omega, rfl, by simp, ?_, HE1, hB3⟩
          rw [← letV_snoc]
          simpa using ho3
        case measure => simp [intOf]; omega
      · rw [if_neg hot] at HE1
        rw [decide_eq_false hot] at heq
        go_wp2
        go_roundw
        case rel => exact ⟨k + 1, l, g, cap, by omega, by omega, rfl, rfl, hown, HE1, hB⟩
        case measure => simp [intOf]; omega
    · have hke : k = 6 := by omega
      subst hke
      have hres : res = letS 97 l := by have h := HE.out; rw [holdsLoop, if_neg (by omega)] at h; exact h.symm
      subst hres
      have hcv := conv_let hown
      clear HE
      go_wp2
      go_ret
      exact ⟨rfl, ((Below.refl w.heap.size w).alloc (Nat.le_refl _) _).trans (hB.mono (by omega))⟩
end Go.Proofs.Ytfdbnilopfnifaa
namespace Go.Proofs.Ytfdbnilopfnifaa
open Go.RowKit
attribute [local go_sem ↓] loadS_fold storeS_fold zeroS_fold

def storeV (p v : Value) : Sem Unit := Instr.storeAt 142 p v
theorem storeV_fold (p v : Value) : Instr.storeAt 142 p v = storeV p v := rfl
theorem Mv.one (m : Mv) : ∀ v ∈ m.cells, v.oneCell' = true := by
  intro v hv
  simp only [Mv.cells, List.mem_toArray, List.mem_cons, List.not_mem_nil, or_false] at hv
  rcases hv with rfl | rfl | rfl | rfl | rfl | rfl <;> rfl
theorem storeV_run {w : World} {g : Nat} {old : Array Value} {ty : TypeId} {m : Mv} (h : w.heap[g]? = some (.cells old ty (0, 0))) (ho : old.size = 6) :
    (storeV (.pointer (some ⟨g, 0, none⟩)) (.agg m.cells)).run Try.prog w = .ok () (w.setRow g m.cells) := by
  simp only [Go.Proofs.Ytfdbnilopfnifaa.storeV, Instr.storeAt, Instr.sureAddr, Sem.run_bind, Sem.run_pure, Result.andThen]
  exact run_storeVar_row w g ty _ old m.cells h info6 ho (Array.all_eq_true_iff_forall_mem.2 fun v hv => m.one v hv)
abbrev zeroMv : Array Value := #[.int .i64 0, .int .i64 0, .int .i64 0, .int .i64 0, .int .i64 0, .string ⟨#[]⟩]
attribute [local go_sem ↓] storeV_fold

set_option maxRecDepth 100000 in
set_option maxHeartbeats 2000000 in
theorem moveOf_in (V : Value) (L : List (List Stp)) (s : MS) (ok : s.Ok) (w : World) (B : Nat) (hp : ProgIn w B V L) (hL : L.length ≤ 5) (t n : Nat) (ht : t < L.length) (i : Int) (hi : i = t) (hn : s.pl[t]? = some n) (x : Stp) (hx : L[t][n]? = some x) :
    Calls Try.prog 111 #[.agg #[V], .agg s.cells, .int .i64 i] w fun e w' => e = .returned (.agg (Mv.cells ⟨t, n, x, holdsLoop s.ow t 0 ⟨#[]⟩⟩)) ∧ Below w.heap.size w w' := by
  subst hi
  have hp2 : ProgIn (boxes w V s) B V L := (hp.alloc (.cells #[V] 72)).alloc (.cells s.cells 95)
  have hp3 := hp2.alloc (.cells zeroMv 142)
  have hN := fun w' hw => Next_in V L s ok w' B (ProgIn.below hp3 (w' := w') hw) hL t n ht _ rfl hn x hx
  have hH := fun w => HoldsM_any s ok t _ rfl w
  have hst : StIn (boxes w V s) (w.heap.size + 1) s := ⟨heap_alloc2_new _ _ _, ok⟩
  have hst3 := hst.below ((Below.refl _ _).alloc (Nat.le_refl _) (.cells zeroMv 142))
  have hld := hst3.loadS
  have hc0 : (boxes w V s).cell? ⟨w.heap.size, 0, none⟩ = some V := cellB (heap_alloc2_old _ _ _) rfl
  have hc1 := cell_later ((Below.refl _ _).alloc (Nat.le_refl _) (.cells zeroMv 142)) hc0
  have hr : ((boxes w V s).alloc (.cells zeroMv 142)).heap[w.heap.size + 2]? = some (.cells zeroMv 142) := by
    have := heap_alloc_new (boxes w V s) (.cells zeroMv 142)
    simpa using this
  have hB0 : Below w.heap.size w ((boxes w V s).alloc (.cells zeroMv 142)) := (two_new ((Below.refl _ _).alloc (Nat.le_refl _) _)).2.2.1
  generalize holdsLoop s.ow t 0 ⟨#[]⟩ = hs at *
  clear hp2 hp3 hp hc0 hst
  go_enter Try.func111, Try.ntmps111
  go_upto_region 2 with (first | (go_at_call 107; refine (hN _ (Below.refl _ _)).mono ?_; rintro e w1 ⟨he, hb⟩; rw [nextV, stpV] at he; subst he))
  obtain ⟨n0, n1, n2⟩ := new3_get w1 (.int .i64 x.kind) (.int .i64 x.which) (.int .i64 x.count) 140
  have hb1 := hb.alloc hb.size (.cells #[.int .i64 x.kind, .int .i64 x.which, .int .i64 x.count] 140)
  have hsX := hst3.below hb1
  have hrX := (hb1.block (w.heap.size + 2) (Array.getElem?_eq_some_iff.1 hr).1).trans hr
  have hBX := hB0.trans (hb1.mono hB0.size)
  have hlt : w.heap.size + 3 ≤ w1.heap.size := by have := hb.size; simp at this; omega
  have hlX := (Array.getElem?_eq_some_iff.1 hrX).1
  generalize w1.alloc (.cells #[.int .i64 x.kind, .int .i64 x.which, .int .i64 x.count] 140) = X at *
  clear hN hld hc1 hr hB0 hb hb1 hst3
  go_region_held3 (fun w' => w'.cell? ⟨w1.heap.size, 0, none⟩ = some (.int .i64 x.kind) ∧ w'.cell? ⟨w1.heap.size, 1, none⟩ = some (.int .i64 x.which) ∧ w'.cell? ⟨w1.heap.size, 2, none⟩ = some (.int .i64 x.count) ∧ (loadS (.pointer (some ⟨w.heap.size + 1, 0, none⟩))).run Try.prog w' = .ok (.agg s.cells) w')
    (first | (refine ⟨cell_later ?_ n0, cell_later ?_ n1, cell_later ?_ n2, (hsX.below ?_).loadS⟩ <;> first | exact Below.refl _ _ | exact (Below.refl _ _).drew | exact hx1 | exact hx1.drew) | exact ⟨by rw [cell_setRow_other _ _ _ _ (show w1.heap.size ≠ w.heap.size + 2 by omega)]; exact cell_later hx1 n0, by rw [cell_setRow_other _ _ _ _ (show w1.heap.size ≠ w.heap.size + 2 by omega)]; exact cell_later hx1 n1, by rw [cell_setRow_other _ _ _ _ (show w1.heap.size ≠ w.heap.size + 2 by omega)]; exact cell_later hx1 n2, ((hsX.below hx1).row (by omega) _).loadS⟩)
    (first | (go_at_call 110; refine (hH _).mono ?_; rintro e w2 ⟨rfl, hbb⟩; have hx1 : Below X.heap.size X w2 := (by first | exact hbb | exact below_of_drew hbb); have hrow := (hx1.block _ hlX).trans hrX; have hsv := storeV_run (m := ⟨t, n, x, hs⟩) hrow rfl; simp only [Mv.cells] at hsv))
  go_wp2
  exact bodyPost_ret (v := .agg (Mv.cells ⟨t, n, x, hs⟩)) (results_cell_row Try.results111 _ _ (w.heap.size + 2) _ _ _ _ rfl (setRow_heap _ _ _ _ _ _ hrow) Try.underlying142 rfl info6) rfl ⟨rfl, below_setRow (hBX.trans (hx1.mono hBX.size)) (by omega) _⟩
end Go.Proofs.Ytfdbnilopfnifaa
