import Derived.Test.YtfdbnilopfnifaaE3
import Derived.Deep.MidRow
namespace Go.Proofs.Ytfdbnilopfnifaa
open Go.RowKit

/-! Marks, along any relation of events that lead to one another. -/
def addL (ld : Nat → Nat → Bool) (j i : Nat) (m : List Bool) : List Bool :=
  if i < j then addL ld j (i + 1) (if ld i j = true then m.set i true else m) else m
termination_by j - i
def aheadP (ld : Nat → Nat → Bool) : Nat → List Bool → List Bool
  | 0, m => m
  | k + 1, m => aheadP ld k (if m[k + 1]?.getD false = true then addL ld (k + 1) 0 m else m)
def aheadS (ld : Nat → Nat → Bool) (j : Nat) : List Bool := aheadP ld j (zeroM60.set j true)
theorem addL_len (ld : Nat → Nat → Bool) (j : Nat) : ∀ (d i : Nat) (m : List Bool), j - i = d → (addL ld j i m).length = m.length := by
  intro d
  induction d with
  | zero => intro i m hd; rw [addL, if_neg (by omega)]
  | succ d ih =>
    intro i m hd
    rw [addL, if_pos (by omega), ih (i + 1) _ (by omega)]
    split
    · simp
    · rfl
theorem aheadP_len (ld : Nat → Nat → Bool) : ∀ (k : Nat) (m : List Bool), (aheadP ld k m).length = m.length
  | 0, m => rfl
  | k + 1, m => by
    rw [aheadP, aheadP_len ld k]
    split
    · exact addL_len ld _ _ _ _ rfl
    · rfl
theorem aheadS_len (ld : Nat → Nat → Bool) (j : Nat) : (aheadS ld j).length = 60 := by rw [aheadS, aheadP_len]; simp [zeroM60]

/-- Moves, as they lie in a row. -/
def MvsAt (w : World) (g : Nat) (l : List Mv) : Prop := ∀ j a, l[j]? = some a → w.rangeAt g (j * 6) a.cells.toList
theorem MvsAt.below {w w' : World} {g : Nat} {l : List Mv} (h : MvsAt w g l) (hb : Below w.heap.size w w') : MvsAt w' g l := fun j a ha k v hv => by
  have := h j a ha k v hv
  rw [hb.cell (World.block_lt_of_cell? w _ this)]; exact this
def ldL (l : List Mv) (i k : Nat) : Bool := (l[i]?.bind fun a => l[k]?.map fun b => ldB a b).getD false
theorem ldL_at {l : List Mv} {i k : Nat} {a b : Mv} (ha : l[i]? = some a) (hb : l[k]? = some b) : ldL l i k = ldB a b := by rw [ldL, ha, hb]; rfl

def loadV (p : Value) : Sem Value := Instr.loadAt 142 p
theorem loadV_fold (p : Value) : Instr.loadAt 142 p = loadV p := rfl
theorem info6 : (Try.prog.info? 142).map (·.size) = some 6 := by
  have h := Try.sizeOf142 { heap := #[], tape := default, drawn := default, os := default, output := default }
  generalize Try.prog = P at *
  cases hq : P.info? 142 with
  | none => simp [sizeOf, typeInfo, hq] at h
  | some i => simp [sizeOf, typeInfo, hq] at h; simp [h]
theorem MvsAt.loadV {w : World} {g : Nat} {l : List Mv} (h : MvsAt w g l) {j : Nat} {a : Mv} (ha : l[j]? = some a) : (loadV (.pointer (some ⟨g, j * 6, none⟩))).run Try.prog w = .ok (.agg a.cells) w :=
  run_loadAt_mid w g (j * 6) 142 a.cells.toList _ (h j a ha) Try.underlying142 rfl info6

theorem Has_any (a : Option Addr) (c n : Nat) (Wn : Value) (w : World) (i : Int) :
    Calls Try.prog 60 #[.agg #[.slice a n c, Wn], .int .i64 i] w fun e w' => e = .returned (.bool (decide (0 ≤ i ∧ i < n))) ∧ Below w.heap.size w w' := by
  by_cases h0 : 0 ≤ i
  · by_cases h1 : i < n
    · rw [decide_eq_true ⟨h0, h1⟩]
      go_enter Try.func60, Try.ntmps60
      go_wp2
      go_ret
      exact ⟨rfl, (Below.refl _ _).alloc (Nat.le_refl _) _⟩
    · rw [decide_eq_false (fun h => h1 h.2)]
      go_enter Try.func60, Try.ntmps60
      go_wp2
      go_ret
      exact ⟨rfl, (Below.refl _ _).alloc (Nat.le_refl _) _⟩
  · rw [decide_eq_false (fun h => h0 h.1)]
    go_enter Try.func60, Try.ntmps60
    go_wp2
    go_ret
    exact ⟨rfl, (Below.refl _ _).alloc (Nat.le_refl _) _⟩

attribute [local go_sem ↓] loadQ_fold storeQ_fold zeroQ_fold loadV_fold

set_option maxRecDepth 100000 in
set_option maxHeartbeats 2000000 in
theorem addLeading_any (g c : Nat) (Wn : Value) (l : List Mv) (m : List Bool) (hm : m.length = 60) (w : World) (hE : MvsAt w g l) (j : Nat) (hj : j < l.length) (hl : l.length ≤ 60) (y : Int) (hy : y = j) :
    Calls Try.prog 113 #[.agg #[.slice (some ⟨g, 0, none⟩) l.length c, Wn], .agg (setC m), .int .i64 y] w fun e w' => e = .returned (.agg (setC (addL (ldL l) j 0 m))) ∧ Below w.heap.size w w' := by
  subst hy
  generalize hres : addL (ldL l) j 0 m = res
  have HR : Hid (addL (ldL l) j 0 m = res) := hres
  clear hres
  obtain ⟨b, hb⟩ : ∃ b, l[j]? = some b := ⟨l[j], by simp [hj]⟩
  have s1 : SetIn (((w.alloc (.cells #[.slice (some ⟨g, 0, none⟩) l.length c, Wn] 104)).alloc (.cells (setC m) 145)).alloc (.cells (setC zeroM60) 145)) (w.heap.size + 1) m := SetIn.old ⟨heap_alloc2_new _ _ _, hm⟩ _
  have s2 : SetIn (((w.alloc (.cells #[.slice (some ⟨g, 0, none⟩) l.length c, Wn] 104)).alloc (.cells (setC m) 145)).alloc (.cells (setC zeroM60) 145)) (w.heap.size + 2) zeroM60 := ⟨by simpa using heap_alloc_new ((w.alloc (.cells #[.slice (some ⟨g, 0, none⟩) l.length c, Wn] 104)).alloc (.cells (setC m) 145)) (.cells (setC zeroM60) 145), rfl⟩
  have s0 : (((w.alloc (.cells #[.slice (some ⟨g, 0, none⟩) l.length c, Wn] 104)).alloc (.cells (setC m) 145)).alloc (.cells (setC zeroM60) 145)).cell? ⟨w.heap.size, 0, none⟩ = some (.slice (some ⟨g, 0, none⟩) l.length c) := cell_later ((Below.refl _ _).alloc (Nat.le_refl _) _) (cellB (heap_alloc2_old _ _ _) rfl)
  have hB0 : Below w.heap.size w (((w.alloc (.cells #[.slice (some ⟨g, 0, none⟩) l.length c, Wn] 104)).alloc (.cells (setC m) 145)).alloc (.cells (setC zeroM60) 145)) := (two_new ((Below.refl _ _).alloc (Nat.le_refl _) _)).2.2.1
  go_enter Try.func113, Try.ntmps113
  go_wp2
  go_loopw [7] (fun x wr => ∃ (k : Nat) (m : List Bool), k ≤ j ∧ x = .int .i64 k ∧ Hid (addL (ldL l) j k m = res) ∧ SetIn wr (w.heap.size + 1) m ∧ SetIn wr (w.heap.size + 2) zeroM60 ∧ wr.cell? ⟨w.heap.size, 0, none⟩ = some (.slice (some ⟨g, 0, none⟩) l.length c) ∧ Below w.heap.size w wr) (fun x _ => j - (intOf x).toNat)
  case atStart => exact ⟨0, m, by omega, rfl, HR, s1, s2, s0, hB0⟩
  case round =>
    obtain ⟨k, m, hk, rfl, HE, t1, t2, t0, hBr⟩ := hrel
    clear HR s0 s1 s2 hB0
    by_cases hkj : k < j
    · have hkl : k < l.length := by omega
      obtain ⟨a, ha⟩ : ∃ a, l[k]? = some a := ⟨l[k], by simp [hkl]⟩
      have hEr := hE.below hBr
      have HE1 : Hid (addL (ldL l) j (k + 1) (if ldB a b = true then m.set k true else m) = res) := by
        have h := HE.out
        rw [addL, if_pos hkj, ldL_at ha hb] at h
        exact h
      have hLd := fun w => leads_any a b w
      generalize ldB a b = d at *
      obtain ⟨q, hq⟩ : ∃ q, m[k]? = some q := ⟨m[k]'(by rw [t1.n]; omega), by simp⟩
      have k0 : (0 : Int) ≤ (k : Int) := by omega
      have kl : (k : Int) < (l.length : Int) := by omega
      have j0 : (0 : Int) ≤ (j : Int) := by omega
      have jl : (j : Int) < (l.length : Int) := by omega
      have k60 : (k : Int) < 60 := by omega
      have kj : (k : Int) < (j : Int) := by omega
      clear HE
      go_upto_region 4 with fail
      go_region_held3 (fun w' => w'.cell? ⟨w.heap.size, 0, none⟩ = some (.slice (some ⟨g, 0, none⟩) l.length c) ∧ (loadV (.pointer (some ⟨g, k * 6, none⟩))).run Try.prog w' = .ok (.agg a.cells) w' ∧ (loadV (.pointer (some ⟨g, j * 6, none⟩))).run Try.prog w' = .ok (.agg b.cells) w')
        (first | (refine ⟨cell_later ?_ t0, (hEr.below ?_).loadV ha, (hEr.below ?_).loadV hb⟩ <;> first | exact Below.refl _ _ | exact (Below.refl _ _).drew | exact hx1 | exact hx1.drew) | go_keep)
        (first | (go_at_call 125; refine (hLd _).mono ?_; rintro e w2 ⟨rfl, hbb⟩; have hx1 : Below wr.heap.size wr w2 := (by first | exact hbb | exact below_of_drew hbb)))
      have u1 := t1.below hx1
      have u2 := t2.below hx1
      have u0 := cell_later hx1 t0
      have hBw := hBr.trans (hx1.mono hBr.size)
      have cq := u1.cell hq
      have zq := u1.z k
      clear hEr t0 t1 t2
      cases d with
      | true =>
        rw [if_pos rfl] at HE1
        go_wp2
        go_roundw
        case rel => exact ⟨k + 1, m.set k true, by omega, rfl, HE1, u1.put k true, u2.other (by simp) _, by rw [World.cell?_of_block (w := w2) (heap_setCell_other _ _ _ _ (by simp))]; exact u0, hBw.setCell (by simp) _⟩
        case measure => (simp [intOf]; omega)
      | false =>
        rw [if_neg (by simp)] at HE1
        go_wp2
        go_roundw
        case rel => exact ⟨k + 1, m, by omega, rfl, HE1, u1, u2, u0, hBw⟩
        case measure => (simp [intOf]; omega)
    · have hke : k = j := by omega
      have hres : res = m := by have h := HE.out; rw [addL, if_neg hkj] at h; exact h.symm
      subst hres
      have hld := t1.loadQ
      have hst := storeQ_run t2 t1.n
      have hfin := t2.setRow t1.n
      have kj : ¬ (k : Int) < (j : Int) := by omega
      clear HE
      go_wp2
      exact bodyPost_ret (v := .agg (setC res)) (results_cell_row Try.results113 _ _ (w.heap.size + 2) _ _ _ _ rfl hfin.blk Try.underlying145 rfl (by rw [setC_size, t1.n]; exact info60)) rfl ⟨rfl, below_setRow hBr (by omega) _⟩
end Go.Proofs.Ytfdbnilopfnifaa
namespace Go.Proofs.Ytfdbnilopfnifaa
open Go.RowKit

/-! What comes ahead, as chains. -/
/-- Event i comes ahead of j. -/
inductive Ch (ld : Nat → Nat → Bool) (j : Nat) : Nat → Prop
  | one {i : Nat} : i < j → ld i j = true → Ch ld j i
  | more {i k : Nat} : i < k → ld i k = true → Ch ld j k → Ch ld j i
theorem Ch.lt {ld : Nat → Nat → Bool} {j i : Nat} (h : Ch ld j i) : i < j := by
  induction h with
  | one h _ => exact h
  | more h _ _ ih => omega
theorem Ch.trans {ld : Nat → Nat → Bool} {j k i : Nat} (h : Ch ld k i) (hk : Ch ld j k) : Ch ld j i := by
  induction h with
  | one h1 h2 => exact .more h1 h2 hk
  | more h1 h2 _ ih => exact .more h1 h2 ih

theorem addL_iff (ld : Nat → Nat → Bool) (j : Nat) : ∀ (d i : Nat) (m : List Bool), j - i = d → j ≤ m.length → ∀ x, (addL ld j i m)[x]? = some true ↔ (m[x]? = some true ∨ (i ≤ x ∧ x < j ∧ ld x j = true)) := by
  intro d
  induction d with
  | zero =>
    intro i m hd hj x
    rw [addL, if_neg (by omega)]
    constructor
    · exact .inl
    · rintro (h | ⟨h1, h2, _⟩)
      · exact h
      · omega
  | succ d ih =>
    intro i m hd hj x
    rw [addL, if_pos (by omega)]
    by_cases hc : ld i j = true
    · rw [if_pos hc, ih (i + 1) _ (by omega) (by simpa using hj), List.getElem?_set]
      by_cases hx : i = x
      · subst hx
        rw [if_pos rfl, if_pos (by omega)]
        exact ⟨fun _ => .inr ⟨Nat.le_refl _, by omega, hc⟩, fun _ => .inl rfl⟩
      · rw [if_neg hx]
        constructor
        · rintro (h | ⟨h1, h2, h3⟩)
          · exact .inl h
          · exact .inr ⟨by omega, h2, h3⟩
        · rintro (h | ⟨h1, h2, h3⟩)
          · exact .inl h
          · exact .inr ⟨by omega, h2, h3⟩
    · rw [if_neg hc, ih (i + 1) _ (by omega) hj]
      constructor
      · rintro (h | ⟨h1, h2, h3⟩)
        · exact .inl h
        · exact .inr ⟨by omega, h2, h3⟩
      · rintro (h | ⟨h1, h2, h3⟩)
        · exact .inl h
        · by_cases hx : x = i
          · subst hx; exact absurd h3 hc
          · exact .inr ⟨by omega, h2, h3⟩

theorem getD_true {m : List Bool} {k : Nat} : m[k]?.getD false = true ↔ m[k]? = some true := by cases m[k]? <;> simp
theorem aheadP_iff (ld : Nat → Nat → Bool) (j : Nat) : ∀ (k : Nat) (m : List Bool), k < m.length → m[j]? = some true → (∀ x, m[x]? = some true → x = j ∨ Ch ld j x) → (∀ y, k < y → m[y]? = some true → ∀ x, x < y → ld x y = true → m[x]? = some true) →
    ∀ x, (aheadP ld k m)[x]? = some true ↔ (x = j ∨ Ch ld j x)
  | 0, m, hk, hj, h1, h2, x => by
    rw [aheadP]
    constructor
    · exact h1 x
    · rintro (rfl | h)
      · exact hj
      · induction h with
        | one h3 h4 => exact h2 j (by omega) hj _ h3 h4
        | @more i k h3 h4 _ ih => exact h2 k (by omega) ih _ h3 h4
  | k + 1, m, hk, hj, h1, h2, x => by
    rw [aheadP]
    by_cases hm : m[k + 1]?.getD false = true
    · rw [if_pos hm]
      have hm' := getD_true.1 hm
      have hiff := addL_iff ld (k + 1) _ 0 m rfl (by omega)
      refine aheadP_iff ld j k _ (by rw [addL_len ld _ _ _ _ rfl]; omega) ((hiff j).2 (.inl hj)) ?_ ?_ x
      · intro y hy
        rcases (hiff y).1 hy with h | ⟨_, h4, h5⟩
        · exact h1 y h
        · rcases h1 (k + 1) hm' with h6 | h6
          · subst h6; exact .inr (.one h4 h5)
          · exact .inr (.more h4 h5 h6)
      · intro y hy hmy z hz hl
        rw [hiff]
        by_cases hyk : y = k + 1
        · subst hyk; exact .inr ⟨Nat.zero_le _, hz, hl⟩
        · rcases (hiff y).1 hmy with h | ⟨_, h4, _⟩
          · exact .inl (h2 y (by omega) h z hz hl)
          · omega
    · rw [if_neg hm]
      refine aheadP_iff ld j k _ (by omega) hj h1 ?_ x
      intro y hy hmy z hz hl
      by_cases hyk : y = k + 1
      · subst hyk; exact absurd (getD_true.2 hmy) hm
      · exact h2 y (by omega) hmy z hz hl
theorem aheadS_iff (ld : Nat → Nat → Bool) (j : Nat) (hj : j < 60) (x : Nat) : (aheadS ld j)[x]? = some true ↔ (x = j ∨ Ch ld j x) := by
  refine aheadP_iff ld j j _ (by simpa [zeroM60] using hj) (by rw [List.getElem?_set, if_pos rfl, if_pos (by simpa [zeroM60] using hj)]) (fun y hy => ?_) (fun y hy hm => ?_) x
  · rw [List.getElem?_set] at hy
    split at hy
    · rename_i e; exact .inl e.symm
    · rw [zeroM60, List.getElem?_replicate] at hy
      split at hy <;> simp at hy
  · rw [List.getElem?_set, if_neg (by omega), zeroM60, List.getElem?_replicate] at hm
    split at hm <;> simp at hm
end Go.Proofs.Ytfdbnilopfnifaa
