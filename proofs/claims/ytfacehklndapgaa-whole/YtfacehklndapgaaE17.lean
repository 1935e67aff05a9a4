import Derived.Test.YtfacehklndapgaaE14
import Derived.Test.YtfacehklndapgaaD12
namespace Go.Proofs.Ytfacehklndapgaa
open Go.RowKit
attribute [local go_sem ↓] loadS_fold storeS_fold zeroS_fold

/-! Letters from a first one on, as bytes and as a text. -/
def letV (c : Nat) (l : List Nat) : List Value := l.map fun (k : Nat) => Value.int .u8 ((c : Int) + (k : Int))
def letS (c : Nat) (l : List Nat) : ByteArray := ⟨(l.map fun k => UInt8.ofNat (c + k)).toArray⟩
theorem strOf_let (c : Nat) (l : List Nat) : strOfNums (l.map fun (k : Nat) => ((c : Int) + (k : Int))) = letS c l := by
  have e : ∀ t : Nat, ((c : Int) + t).toNat = c + t := fun t => by omega
  simp only [strOfNums, letS, List.map_map, Function.comp_def, e]
theorem conv_let {w : World} {B g cap c : Nat} {l : List Nat} (h : w.ownsRow B 5 1 (.slice (some ⟨g, 0, none⟩) l.length cap) l.length (letV c l)) :
    (convert 86 9 (.slice (some ⟨g, 0, none⟩) l.length cap)).run Try.prog w = .ok (.string (letS c l)) w := by
  rw [← strOf_let]
  refine run_convert_bytes_arg (P := Try.prog) w 86 5 Try.underlying86 Try.underlying5 g 0 l.length cap _ (by simp) ?_ 9 Try.underlying9
  intro i hi
  have := h.cellAt i (by rw [Nat.mul_one]; exact hi)
  rw [Nat.zero_add, this]
  simp [letV, List.getD, hi]
theorem letS_snoc (c : Nat) (l : List Nat) (k : Nat) : letS c l ++ ⟨#[UInt8.ofNat (c + k)]⟩ = letS c (l ++ [k]) := by
  apply ByteArray.ext
  simp [letS]
theorem letV_snoc (c : Nat) (l : List Nat) (k : Nat) : letV c l ++ [Value.int .u8 ((c : Int) + (k : Int))] = letV c (l ++ [k]) := by simp [letV]
theorem lock_let (k : Nat) (h : k < 6) : lockS.extract k (k + 1) = ⟨#[UInt8.ofNat (97 + k)]⟩ := by
  have : k = 0 ∨ k = 1 ∨ k = 2 ∨ k = 3 ∨ k = 4 ∨ k = 5 := by omega
  rcases this with rfl | rfl | rfl | rfl | rfl | rfl <;> decide
theorem flag_let (k : Nat) (h : k < 6) : flagS.extract k (k + 1) = ⟨#[UInt8.ofNat (117 + k)]⟩ := by
  have : k = 0 ∨ k = 1 ∨ k = 2 ∨ k = 3 ∨ k = 4 ∨ k = 5 := by omega
  rcases this with rfl | rfl | rfl | rfl | rfl | rfl <;> decide

theorem ownI_eq (o : Option Nat) (t : Nat) : (ownI o == (t : Int)) = decide (o = some t) := by
  have h := ownI_ne o t
  rw [bne] at h
  cases hb : (ownI o == (t : Int)) <;> rw [hb] at h <;> simp at h <;> simp [h]

set_option maxRecDepth 100000 in
set_option maxHeartbeats 2000000 in
theorem HoldsM_any (s : MS) (ok : s.Ok) (t : Nat) (i : Int) (hi : i = t) (w : World) :
    Calls Try.prog 97 #[.agg s.cells, .int .i64 i] w fun e w' => e = .returned (.string (holdsLoop s.ow t 0 ⟨#[]⟩)) ∧ Below w.heap.size w w' := by
  subst hi
  have hst : StIn (w.alloc (.cells s.cells 92)) w.heap.size s := ⟨heap_alloc_new _ _, ok⟩
  have hbs : (w.alloc (.cells s.cells 92)).heap.size = w.heap.size + 1 := by simp
  generalize hres : holdsLoop s.ow t 0 ⟨#[]⟩ = res
  have HR : Hid (holdsLoop s.ow t 0 (letS 97 []) = res) := hres
  clear hres
  go_enter Try.func97, Try.ntmps97
  go_wp2
  go_loopw [5, 6] (fun v i wr => ∃ (k : Nat) (l : List Nat) (g cap : Nat), k ≤ 6 ∧ l.length ≤ k ∧ i = .int .i64 k ∧ v = .slice (some ⟨g, 0, none⟩) l.length cap ∧ wr.ownsRow (w.heap.size + 1) 5 1 (.slice (some ⟨g, 0, none⟩) l.length cap) l.length (letV 97 l) ∧ Hid (holdsLoop s.ow t k (letS 97 l) = res) ∧ Below (w.heap.size + 1) (w.alloc (.cells s.cells 92)) wr) (fun _ i _ => 6 - (intOf i).toNat)
  case atStart =>
    refine ⟨0, [], w.heap.size + 1, 0, by omega, by simp, rfl, rfl, ?_, HR, ?_⟩
    · have h := World.ownsRow_lit (w.alloc (.cells s.cells 92)) (base := w.heap.size + 1) (e := 5) (size := 1) #[] 0 (by simp) (Nat.zero_le _) rfl
      simpa [letV] using h
    · rw [← hbs]; exact (Below.refl _ _).alloc (Nat.le_refl _) _
  case round =>
    obtain ⟨k, l, g, cap, hk, hlk, rfl, rfl, hown, HE, hB⟩ := hrel
    have hB' : Below (w.alloc (.cells s.cells 92)).heap.size (w.alloc (.cells s.cells 92)) wr := by rw [hbs]; exact hB
    have hsr := hst.below hB'
    have hgl := hown.lt g rfl
    clear HR hst
    by_cases hk6 : k < 6
    · obtain ⟨o, ho⟩ : ∃ o, s.ow[k]? = some o := ⟨s.ow[k]'(by rw [ok.n3]; omega), by simp⟩
      have c10 := hsr.ow ho
      have heq := ownI_eq o t
      have k0 : (0 : Int) ≤ (k : Int) := by omega
      have k6 : (k : Int) < 6 := by omega
      have HE1 : Hid (holdsLoop s.ow t (k + 1) (if o = some t then letS 97 (l ++ [k]) else letS 97 l) = res) := by
        have h := HE.out
        rw [holdsLoop, if_pos hk6, ho, Option.getD_some, lock_let k hk6, letS_snoc] at h
        exact h
      clear HE ho
      by_cases hot : o = some t
      · rw [if_pos hot] at HE1
        subst hot
        have c11 : wr.cell? ⟨w.heap.size, 10 + k, none⟩ = some (.int .i64 (t : Int)) := c10
        clear heq c10
        go_wp2_with (at_builtin; go_loud (refine wpList_appendLit _ rfl _ _ 86 rfl (w.heap.size + 1) 5 (.int .u8 0) 1 1 Try.underlying86 infoU8 rfl (by decide) _ _ _ rfl hown _ _ rfl rfl rfl ?c2 ?c3 ?c4 ?c5 ?_))
        case c2 => rfl
        case c3 => omega
        case c4 => omega
        case c5 => have := hB'.size; rw [hbs] at this; exact this
        intro v' w3 ho3 hg3 hf3 hn3
        have hB3 := below_grown (hB.alloc (by have := hB'.size; rw [hbs] at this; exact this) _) (by have := hB'.size; rw [hbs] at this; simp; omega) hg3 (fun k hk => by simp [Value.ownBlock] at hk; omega)
        obtain ⟨g', cap', hv3⟩ := row_form ho3 hn3
        subst hv3
        clear hg3 hf3 hn3 hown
        go_wp2
        go_roundw
        case rel =>
          refine ⟨k + 1, l ++ [k], g', cap', by omega, by simp; omega, rfl, by simp, ?_, HE1, hB3⟩
          rw [← letV_snoc]
          simpa using ho3
        case measure => simp [intOf]; omega
      · rw [if_neg hot] at HE1
        rw [decide_eq_false hot] at heq
        go_wp2
        go_roundw
        case rel => exact ⟨k + 1, l, g, cap, by omega, by omega, rfl, rfl, hown, HE1, hB⟩
        case measure => simp [intOf]; omega
    · have hke : k = 6 := by omega
      subst hke
      have hres : res = letS 97 l := by have h := HE.out; rw [holdsLoop, if_neg (by omega)] at h; exact h.symm
      subst hres
      have hcv := conv_let hown
      clear HE
      go_wp2
      go_ret
      exact ⟨rfl, ((Below.refl w.heap.size w).alloc (Nat.le_refl _) _).trans (hB.mono (by omega))⟩
end Go.Proofs.Ytfacehklndapgaa
