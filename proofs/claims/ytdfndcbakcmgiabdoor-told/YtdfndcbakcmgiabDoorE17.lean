import Derived.Test.YtdfndcbakcmgiabDoorE14
import Derived.Test.YtdfndcbakcmgiabDoorD1
namespace Go.Proofs.YtdfndcbakcmgiabDoor
open Go.RowKit
attribute [local go_sem ↓] loadS_fold storeS_fold zeroS_fold

/-! Letters from a first one on, as bytes and as a text. -/
def letV (c : Nat) (l : List Nat) : List Value := l.map fun (k : Nat) => Value.int .u8 ((c : Int) + (k : Int))
def letS (c : Nat) (l : List Nat) : ByteArray := ⟨(l.map fun k => UInt8.ofNat (c + k)).toArray⟩
theorem strOf_let (c : Nat) (l : List Nat) : strOfNums (l.map fun (k : Nat) => ((c : Int) + (k : Int))) = letS c l := by
  have e : ∀ t : Nat, ((c : Int) + t).toNat = c + t := fun t => by omega
  simp only [strOfNums, letS, List.map_map, Function.comp_def, e]
theorem conv_let {w : World} {B g cap c : Nat} {l : List Nat} (h : w.ownsRow B 5 1 (.slice (some ⟨g, 0, none⟩) l.length cap) l.length (letV c l)) :
    (convert 47 9 (.slice (some ⟨g, 0, none⟩) l.length cap)).run Tryd.prog w = .ok (.string (letS c l)) w := by
  rw [← strOf_let]
  refine run_convert_bytes_arg (P := Tryd.prog) w 47 5 Tryd.underlying47 Tryd.underlying5 g 0 l.length cap _ (by simp) ?_ 9 Tryd.underlying9
  intro i hi
  have := h.cellAt i (by rw [Nat.mul_one]; exact hi)
  rw [Nat.zero_add, this]
  simp [letV, List.getD, hi]
theorem letS_snoc (c : Nat) (l : List Nat) (k : Nat) : letS c l ++ ⟨#[UInt8.ofNat (c + k)]⟩ = letS c (l ++ [k]) := by
  apply ByteArray.ext
  simp [letS]
theorem letV_snoc (c : Nat) (l : List Nat) (k : Nat) : letV c l ++ [Value.int .u8 ((c : Int) + (k : Int))] = letV c (l ++ [k]) := by simp [letV]
theorem lock_let (k : Nat) (h : k < 6) : lockS.extract k (k + 1) = ⟨#[UInt8.ofNat (97 + k)]⟩ := by
  have : k = 0 ∨ k = 1 ∨ k = 2 ∨ k = 3 ∨ k = 4 ∨ k = 5 := by omega
  rcases this with rfl | rfl | rfl | rfl | rfl | rfl <;> decide
theorem flag_let (k : Nat) (h : k < 6) : flagS.extract k (k + 1) = ⟨#[UInt8.ofNat (117 + k)]⟩ := by
  have : k = 0 ∨ k = 1 ∨ k = 2 ∨ k = 3 ∨ k = 4 ∨ k = 5 := by omega
  rcases this with rfl | rfl | rfl | rfl | rfl | rfl <;> decide

theorem ownI_eq (o : Option Nat) (t : Nat) : (ownI o == (t : Int)) = decide (o = some t) := by
  have h := ownI_ne o t
  rw [bne] at h
  cases hb : (ownI o == (t : Int)) <;> rw [hb] at h <;> simp at h <;> simp [h]

set_option maxRecDepth 100000 in
set_option maxHeartbeats 2000000 in
theorem HoldsM_any (s : MS) (ok : s.Ok) (t : Nat) (i : Int) (hi : i = t) (w : World) :
    Calls Tryd.prog 61 #[.agg s.cells, .int .i64 i] w fun e w' => e = .returned (.string (holdsLoop s.ow t 0 ⟨#[]⟩)) ∧ Below w.heap.size w w' := by
  subst hi
  have hst : StIn (w.alloc (.cells s.cells 79)) w.heap.size s := ⟨heap_alloc_new _ _, ok⟩
  have hbs : (w.alloc (.cells s.cells 79)).heap.size = w.heap.size + 1 := by simp
  generalize hres : holdsLoop s.ow t 0 ⟨#[]⟩ = res
  have HR : Hid (holdsLoop s.ow t 0 (letS 97 []) = res) := hres
  clear hres
  go_enter Tryd.func61, Tryd.ntmps61
  go_wp2
  go_loopw [5, 6] (fun v i wr => ∃ (k : Nat) (l : List Nat) (g cap : Nat), k ≤ 6 ∧ l.length ≤ k ∧ i = .int .i64 k ∧ v = .slice (some ⟨g, 0, none⟩) l.length cap ∧ wr.ownsRow (w.heap.size + 1) 5 1 (.slice (some ⟨g, 0, none⟩) l.length cap) l.length (letV 97 l) ∧ Hid (holdsLoop s.ow t k (letS 97 l) = res) ∧ Below (w.heap.size + 1) (w.alloc (.cells s.cells 79)) wr) (fun _ i _ => 6 - (intOf i).toNat)
  case atStart =>
    refine ⟨0, [], w.heap.size + 1, 0, by omega, by simp, rfl, rfl, ?_, HR, ?_⟩
    · have h := World.ownsRow_lit (w.alloc (.cells s.cells 79)) (base := w.heap.size + 1) (e := 5) (size := 1) #[] 0 (by simp) (Nat.zero_le _) rfl
      simpa [letV] using h
    · rw [← hbs]; exact (Below.refl _ _).alloc (Nat.le_refl _) _
  case round =>
    obtain ⟨k, l, g, cap, hk, hlk, rfl, rfl, hown, HE, hB⟩ := hrel
    have hB' : Below (w.alloc (.cells s.cells 79)).heap.size (w.alloc (.cells s.cells 79)) wr := by rw [hbs]; exact hB
    have hsr := hst.below hB'
    have hgl := hown.lt g rfl
    clear HR hst
    by_cases hk6 : k < 6
    · obtain ⟨o, ho⟩ : ∃ o, s.ow[k]? = some o := ⟨s.ow[k]'(by rw [ok.n3]; omega), by simp⟩
      have c10 := hsr.ow ho
      have heq := ownI_eq o t
      have k0 : (0 : Int) ≤ (k : Int) := by omega
      have k6 : (k : Int) < 6 := by omega
      have HE1 : Hid (holdsLoop s.ow t (k + 1) (if o = some t then letS 97 (l ++ [k]) else letS 97 l) = res) := by
        have h := HE.out
        rw [holdsLoop, if_pos hk6, ho, Option.getD_some, lock_let k hk6, letS_snoc] at h
        exact h
      clear HE ho
      by_cases hot : o = some t
      · rw [if_pos hot] at HE1
        subst hot
        have c11 : wr.cell? ⟨w.heap.size, 10 + k, none⟩ = some (.int .i64 (t : Int)) := c10
        clear heq c10
        go_wp2_with (at_builtin; go_loud (refine wpList_appendLit _ rfl _ _ 47 rfl (w.heap.size + 1) 5 (.int .u8 0) 1 1 Tryd.underlying47 infoU8 rfl (by decide) _ _ _ rfl hown _ _ rfl rfl rfl ?c2 ?c3 ?c4 ?c5 ?_))
        case c2 => rfl
        case c3 => omega
        case c4 => omega
        case c5 => have := hB'.size; rw [hbs] at this; exact this
        intro v' w3 ho3 hg3 hf3 hn3
        have hB3 := below_grown (hB.alloc (by have := hB'.size; rw [hbs] at this; exact this) _) (by have := hB'.size; rw [hbs] at this; simp; omega) hg3 (fun k hk => by simp [Value.ownBlock] at hk; omega)
        obtain ⟨g', cap', hv3⟩ := row_form ho3 hn3
        subst hv3
        clear hg3 hf3 hn3 hown
        go_wp2
        go_roundw
        case rel =>
          refine ⟨k + 1, l ++ [k], g', cap', by omega, by simp; omega, rfl, by simp, ?_, HE1, hB3⟩
          rw [← letV_snoc]
          simpa using ho3
        case measure => simp [intOf]; omega
      · rw [if_neg hot] at HE1
        rw [decide_eq_false hot] at heq
        go_wp2
        go_roundw
        case rel => exact ⟨k + 1, l, g, cap, by omega, by omega, rfl, rfl, hown, HE1, hB⟩
        case measure => simp [intOf]; omega
    · have hke : k = 6 := by omega
      subst hke
      have hres : res = letS 97 l := by have h := HE.out; rw [holdsLoop, if_neg (by omega)] at h; exact h.symm
      subst hres
      have hcv := conv_let hown
      clear HE
      go_wp2
      go_ret
      exact ⟨rfl, ((Below.refl w.heap.size w).alloc (Nat.le_refl _) _).trans (hB.mono (by omega))⟩
end Go.Proofs.YtdfndcbakcmgiabDoor
namespace Go.Proofs.YtdfndcbakcmgiabDoor
open Go.RowKit
attribute [local go_sem ↓] loadS_fold storeS_fold zeroS_fold

set_option maxRecDepth 100000 in
set_option maxHeartbeats 2000000 in
theorem flagsSet_any (s : MS) (ok : s.Ok) (w : World) :
    Calls Tryd.prog 56 #[.agg s.cells] w fun e w' => e = .returned (.string (flagsLoop s.fl 0 ⟨#[]⟩)) ∧ Below w.heap.size w w' := by
  have hst : StIn (w.alloc (.cells s.cells 79)) w.heap.size s := ⟨heap_alloc_new _ _, ok⟩
  have hbs : (w.alloc (.cells s.cells 79)).heap.size = w.heap.size + 1 := by simp
  generalize hres : flagsLoop s.fl 0 ⟨#[]⟩ = res
  have HR : Hid (flagsLoop s.fl 0 (letS 117 []) = res) := hres
  clear hres
  go_enter Tryd.func56, Tryd.ntmps56
  go_wp2
  go_loopw [3, 4] (fun v i wr => ∃ (k : Nat) (l : List Nat) (g cap : Nat), k ≤ 6 ∧ l.length ≤ k ∧ i = .int .i64 k ∧ v = .slice (some ⟨g, 0, none⟩) l.length cap ∧ wr.ownsRow (w.heap.size + 1) 5 1 (.slice (some ⟨g, 0, none⟩) l.length cap) l.length (letV 117 l) ∧ Hid (flagsLoop s.fl k (letS 117 l) = res) ∧ Below (w.heap.size + 1) (w.alloc (.cells s.cells 79)) wr) (fun _ i _ => 6 - (intOf i).toNat)
  case atStart =>
    refine ⟨0, [], w.heap.size + 1, 0, by omega, by simp, rfl, rfl, ?_, HR, ?_⟩
    · have h := World.ownsRow_lit (w.alloc (.cells s.cells 79)) (base := w.heap.size + 1) (e := 5) (size := 1) #[] 0 (by simp) (Nat.zero_le _) rfl
      simpa [letV] using h
    · rw [← hbs]; exact (Below.refl _ _).alloc (Nat.le_refl _) _
  case round =>
    obtain ⟨k, l, g, cap, hk, hlk, rfl, rfl, hown, HE, hB⟩ := hrel
    have hB' : Below (w.alloc (.cells s.cells 79)).heap.size (w.alloc (.cells s.cells 79)) wr := by rw [hbs]; exact hB
    have hsr := hst.below hB'
    have hgl := hown.lt g rfl
    clear HR hst
    by_cases hk6 : k < 6
    · obtain ⟨o, ho⟩ : ∃ o, s.fl[k]? = some o := ⟨s.fl[k]'(by rw [ok.n4]; omega), by simp⟩
      have c10 := hsr.fl ho
      have k0 : (0 : Int) ≤ (k : Int) := by omega
      have k6 : (k : Int) < 6 := by omega
      have HE1 : Hid (flagsLoop s.fl (k + 1) (if o = true then letS 117 (l ++ [k]) else letS 117 l) = res) := by
        have h := HE.out
        rw [flagsLoop, if_pos hk6, ho, Option.getD_some, flag_let k hk6, letS_snoc] at h
        exact h
      clear HE ho
      by_cases hot : o = true
      · rw [if_pos hot] at HE1
        subst hot
        go_wp2_with (at_builtin; go_loud (refine wpList_appendLit _ rfl _ _ 47 rfl (w.heap.size + 1) 5 (.int .u8 0) 1 1 Tryd.underlying47 infoU8 rfl (by decide) _ _ _ rfl hown _ _ rfl rfl rfl ?c2 ?c3 ?c4 ?c5 ?_))
        case c2 => rfl
        case c3 => omega
        case c4 => omega
        case c5 => have := hB'.size; rw [hbs] at this; exact this
        intro v' w3 ho3 hg3 hf3 hn3
        have hB3 := below_grown (hB.alloc (by have := hB'.size; rw [hbs] at this; exact this) _) (by have := hB'.size; rw [hbs] at this; simp; omega) hg3 (fun k hk => by simp [Value.ownBlock] at hk; omega)
        obtain ⟨g', cap', hv3⟩ := row_form ho3 hn3
        subst hv3
        clear hg3 hf3 hn3 hown
        go_wp2
        go_roundw
        case rel =>
          refine ⟨k + 1, l ++ [k], g', cap', by omega, by simp; omega, rfl, by simp, ?_, HE1, hB3⟩
          rw [← letV_snoc]
          simpa using ho3
        case measure => simp [intOf]; omega
      · rw [if_neg hot] at HE1
        have hof : o = false := by simpa using hot
        subst hof
        go_wp2
        go_roundw
        case rel => exact ⟨k + 1, l, g, cap, by omega, by omega, rfl, rfl, hown, HE1, hB⟩
        case measure => simp [intOf]; omega
    · have hke : k = 6 := by omega
      subst hke
      have hres : res = letS 117 l := by have h := HE.out; rw [flagsLoop, if_neg (by omega)] at h; exact h.symm
      subst hres
      have hcv := conv_let hown
      clear HE
      go_wp2
      go_ret
      exact ⟨rfl, ((Below.refl w.heap.size w).alloc (Nat.le_refl _) _).trans (hB.mono (by omega))⟩

theorem StIn.set4 {w : World} {g q : Nat} {s : MS} {a b c d : Value} (h : StIn w g s) (hne : g ≠ q) : StIn ((((w.setCell ⟨q, 0, none⟩ a).setCell ⟨q, 1, none⟩ b).setCell ⟨q, 2, none⟩ c).setCell ⟨q, 3, none⟩ d) g s :=
  ⟨by rw [heap_setCell_other _ _ _ _ hne, heap_setCell_other _ _ _ _ hne, heap_setCell_other _ _ _ _ hne, heap_setCell_other _ _ _ _ hne]; exact h.blk, h.ok⟩
def thV (x : Th) : Value := .agg #[.int .i64 x.state, .int .i64 x.place, .string x.holds, .int .i64 x.waits]

set_option maxRecDepth 100000 in
set_option maxHeartbeats 4000000 in
theorem viewThread_any (V : Value) (W : Wd) (G : W.Good) (w : World) (B : Nat) (hp : ProgIn w B V (progL W)) (t : Nat) (ht : t < W.prog.length) (i : Int) (hi : i = t) :
    Calls Tryd.prog 55 #[.agg #[V], .agg (msOf W).cells, .int .i64 i] w fun e w' => e = .returned (thV (thOf W t)) ∧ Below w.heap.size w w' := by
  subst hi
  have po := progL_po G
  have ok := msOf_ok G
  have hp2 : ProgIn (boxes w V (msOf W)) B V (progL W) := (hp.alloc (.cells #[V] 60)).alloc (.cells (msOf W).cells 79)
  have hp3 := hp2.alloc (.cells #[.int .i64 0, .int .i64 0, .string ⟨#[]⟩, .int .i64 0] 70)
  have hK := Look_in V (progL W) (msOf W) ok _ B hp3 po.l5 po.sok t (by rw [progL_len]; exact ht) _ rfl
  rw [look_sim G ht] at hK
  have hH := fun w' => HoldsM_any (msOf W) ok t _ rfl w'
  have hho : holdsLoop (msOf W).ow t 0 ⟨#[]⟩ = holdsOf W t := rfl
  rw [hho] at hH
  obtain ⟨n, hn⟩ := get_some W.place t (by rw [G.ok.nl]; exact ht)
  have hth : thOf W t = ⟨stateOf W t, n, holdsOf W t, waitsOf W t⟩ := by unfold thOf; rw [hn]; rfl
  rw [hth]
  have hn' : (msOf W).pl[t]? = some n := by rw [msOf_pl G ht]; exact hn
  have hst0 : StIn (boxes w V (msOf W)) (w.heap.size + 1) (msOf W) := ⟨heap_alloc2_new _ _ _, ok⟩
  have hst := hst0.alloc (.cells #[.int .i64 0, .int .i64 0, .string ⟨#[]⟩, .int .i64 0] 70)
  have hc0 : (boxes w V (msOf W)).cell? ⟨w.heap.size, 0, none⟩ = some V := cellB (heap_alloc2_old _ _ _) rfl
  have hc1 := cell_later ((Below.refl _ _).alloc (Nat.le_refl _) (.cells #[.int .i64 0, .int .i64 0, .string ⟨#[]⟩, .int .i64 0] 70)) hc0
  have hB0 : Below w.heap.size w ((boxes w V (msOf W)).alloc (.cells #[.int .i64 0, .int .i64 0, .string ⟨#[]⟩, .int .i64 0] 70)) := (two_new ((Below.refl _ _).alloc (Nat.le_refl _) _)).2.2.1
  have hs3 : (boxes w V (msOf W)).heap.size = w.heap.size + 2 := by simp
  have hld := hst.loadS
  have t0 : (0 : Int) ≤ (t : Int) := by omega
  have t5 : (t : Int) < 5 := by have := G.n5; omega
  have t5' : t < 5 := by have := G.n5; omega
  generalize stateOf W t = st at *
  generalize waitsOf W t = wt at *
  generalize holdsOf W t = hs at *
  generalize msOf W = s at *
  clear hp hp2 hp3 hst0 hc0 hth hho hn po
  go_enter Tryd.func55, Tryd.ntmps55
  go_wp2_with (first
    | (go_at_call 57; refine hK.mono ?_; rintro e w1 ⟨he, hb⟩; rw [pairV] at he; subst he; obtain ⟨hc, hz, hlt, _⟩ := below_new hb; rw [hs3] at hc hz hlt; have q0 : w1.cell? ⟨w.heap.size + 2, 0, none⟩ = some (.int .i64 0) := hc 0 _ rfl; have q1 : w1.cell? ⟨w.heap.size + 2, 1, none⟩ = some (.int .i64 0) := hc 1 _ rfl; have q2 : w1.cell? ⟨w.heap.size + 2, 2, none⟩ = some (.string ⟨#[]⟩) := hc 2 _ rfl; have q3 : w1.cell? ⟨w.heap.size + 2, 3, none⟩ = some (.int .i64 0) := hc 3 _ rfl; clear hc; have hs1 := hst.below hb; have hld1 := hs1.loadS; have d5 := hs1.pl hn'))
  go_region_held3 (fun w' => w'.cell? ⟨w.heap.size + 1, 5 + t, none⟩ = some (.int .i64 n) ∧ (loadS (.pointer (some ⟨w.heap.size + 1, 0, none⟩))).run Tryd.prog w' = .ok (.agg s.cells) w')
    (first | exact ⟨d5, hld1⟩ | (refine ⟨cell_later ?_ d5, (hs1.below ?_).loadS⟩ <;> first | exact Below.refl _ _ | exact (Below.refl _ _).drew | exact hx1 | exact hx1.drew) | exact ⟨cell_set4 (show w.heap.size + 2 ≠ w.heap.size + 1 by omega) (cell_later hx1 d5), ((hs1.below hx1).set4 (by omega)).loadS⟩)
    (first | (go_at_call 61; refine (hH _).mono ?_; rintro e w2 ⟨rfl, hbb⟩; have hx1 : Below w1.heap.size w1 w2 := (by first | exact hbb | exact below_of_drew hbb); have q0' := cell_later hx1 q0; have q1' := cell_later hx1 q1; have q2' := cell_later hx1 q2; have q3' := cell_later hx1 q3; have z0' := frozen_later hx1 q0 (hz 0); have z1' := frozen_later hx1 q1 (hz 1); have z2' := frozen_later hx1 q2 (hz 2); have z3' := frozen_later hx1 q3 (hz 3)))
  go_wp2
  have hBw : Below w.heap.size w w2 := hB0.trans ((hb.trans (hx1.mono hb.size)).mono hB0.size)
  exact bodyPost_ret (v := thV ⟨st, n, hs, wt⟩) (by simp [results, Tryd.results55, go_sem, thV, q0', q1', q2', q3']) rfl ⟨rfl, (((hBw.setCell (p := ⟨w.heap.size + 2, 0, none⟩) (by simp) _).setCell (p := ⟨w.heap.size + 2, 1, none⟩) (by simp) _).setCell (p := ⟨w.heap.size + 2, 2, none⟩) (by simp) _).setCell (p := ⟨w.heap.size + 2, 3, none⟩) (by simp) _⟩
end Go.Proofs.YtdfndcbakcmgiabDoor
