import Derived.Test.YtfdbnilopfnifaaE17
import Derived.Test.YtfdbnilopfnifaaE15
import Derived.Test.YtfdbnilopfnifaaT21
namespace Go.Proofs.Ytfdbnilopfnifaa
open Go.RowKit
attribute [local go_sem ↓] loadS_fold storeS_fold zeroS_fold

set_option maxRecDepth 100000 in
set_option maxHeartbeats 2000000 in
theorem flagsSet_any (s : MS) (ok : s.Ok) (w : World) :
    Calls Try.prog 87 #[.agg s.cells] w fun e w' => e = .returned (.string (flagsLoop s.fl 0 ⟨#[]⟩)) ∧ Below w.heap.size w w' := by
  have hst : StIn (w.alloc (.cells s.cells 95)) w.heap.size s := ⟨heap_alloc_new _ _, ok⟩
  have hbs : (w.alloc (.cells s.cells 95)).heap.size = w.heap.size + 1 := by simp
  generalize hres : flagsLoop s.fl 0 ⟨#[]⟩ = res
  have HR : Hid (flagsLoop s.fl 0 (letS 117 []) = res) := hres
  clear hres
  go_enter Try.func87, Try.ntmps87
  go_wp2
  go_loopw [3, 4] (fun v i wr => ∃ (k : Nat) (l : List Nat) (g cap : Nat), k ≤ 6 ∧ l.length ≤ k ∧ i = .int .i64 k ∧ v = .slice (some ⟨g, 0, none⟩) l.length cap ∧ wr.ownsRow (w.heap.size + 1) 5 1 (.slice (some ⟨g, 0, none⟩) l.length cap) l.length (letV 117 l) ∧ Hid (flagsLoop s.fl k (letS 117 l) = res) ∧ Below (w.heap.size + 1) (w.alloc (.cells s.cells 95)) wr) (fun _ i _ => 6 - (intOf i).toNat)
  case atStart =>
    refine ⟨0, [], w.heap.size + 1, 0, by omega, by simp, rfl, rfl, ?_, HR, ?_⟩
    · have h := World.ownsRow_lit (w.alloc (.cells s.cells 95)) (base := w.heap.size + 1) (e := 5) (size := 1) #[] 0 (by simp) (Nat.zero_le _) rfl
      simpa [letV] using h
    · rw [← hbs]; exact (Below.refl _ _).alloc (Nat.le_refl _) _
  case round =>
    obtain ⟨k, l, g, cap, hk, hlk, rfl, rfl, hown, HE, hB⟩ := hrel
    have hB' : Below (w.alloc (.cells s.cells 95)).heap.size (w.alloc (.cells s.cells 95)) wr := by rw [hbs]; exact hB
    have hsr := hst.below hB'
    have hgl := hown.lt g rfl
    clear HR hst
    by_cases hk6 : k < 6
    · obtain ⟨o, ho⟩ : ∃ o, s.fl[k]? = some o := ⟨s.fl[k]'(by rw [ok.n4]; omega), by simp⟩
      have c10 := hsr.fl ho
      have k0 : (0 : Int) ≤ (k : Int) := by omega
      have k6 : (k : Int) < 6 := by omega
      have HE1 : Hid (flagsLoop s.fl (k + 1) (if o = true then letS 117 (l ++ [k]) else letS 117 l) = res) := by
        have h := HE.out
        rw [flagsLoop, if_pos hk6, ho, Option.getD_some, flag_let k hk6, letS_snoc] at h
        exact h
      clear HE ho
      by_cases hot : o = true
      · rw [if_pos hot] at HE1
        subst hot
        go_wp2_with (at_builtin; go_loud (refine wpList_appendLit _ rfl _ _ 89 rfl (w.heap.size + 1) 5 (.int .u8 0) 1 1 Try.underlying89 infoU8 rfl (by decide) _ _ _ rfl hown _ _ rfl rfl rfl ?c2 ?c3 ?c4 ?c5 ?_))
        case c2 => rfl
        case c3 => omega
        case c4 => omega
        case c5 => have := hB'.size; rw [hbs] at this; exact this
        intro v' w3 ho3 hg3 hf3 hn3
        have hB3 := below_grown (hB.alloc (by have := hB'.size; rw [hbs] at this; exact this) _) (by have := hB'.size; rw [hbs] at this; simp; omega) hg3 (fun k hk => by simp [Value.ownBlock] at hk; omega)
        obtain ⟨g', cap', hv3⟩ := row_form ho3 hn3
        subst hv3
        clear hg3 hf3 hn3 hown
        go_wp2
        go_roundw
        case rel =>
          refine ⟨k + 1, l ++ [k], g', cap', by omega, by simp; omega, rfl, by simp, ?_, HE1, hB3⟩
          rw [← letV_snoc]
          simpa using ho3
        case measure => simp [intOf]; omega
      · rw [if_neg hot] at HE1
        have hof : o = false := by simpa using hot
        subst hof
        go_wp2
        go_roundw
        case rel => exact ⟨k + 1, l, g, cap, by omega, by omega, rfl, rfl, hown, HE1, hB⟩
        case measure => simp [intOf]; omega
    · have hke : k = 6 := by omega
      subst hke
      have hres : res = letS 117 l := by have h := HE.out; rw [flagsLoop, if_neg (by omega)] at h; exact h.symm
      subst hres
      have hcv := conv_let hown
      clear HE
      go_wp2
      go_ret
      exact ⟨rfl, ((Below.refl w.heap.size w).alloc (Nat.le_refl _) _).trans (hB.mono (by omega))⟩

theorem StIn.set4 {w : World} {g q : Nat} {s : MS} {a b c d : Value} (h : StIn w g s) (hne : g ≠ q) : StIn ((((w.setCell ⟨q, 0, none⟩ a).setCell ⟨q, 1, none⟩ b).setCell ⟨q, 2, none⟩ c).setCell ⟨q, 3, none⟩ d) g s :=
  ⟨by rw [heap_setCell_other _ _ _ _ hne, heap_setCell_other _ _ _ _ hne, heap_setCell_other _ _ _ _ hne, heap_setCell_other _ _ _ _ hne]; exact h.blk, h.ok⟩
def thV (x : Th) : Value := .agg #[.int .i64 x.state, .int .i64 x.place, .string x.holds, .int .i64 x.waits]

set_option maxRecDepth 100000 in
set_option maxHeartbeats 4000000 in
theorem viewThread_any (V : Value) (W : Wd) (G : W.Good) (w : World) (B : Nat) (hp : ProgIn w B V (progL W)) (t : Nat) (ht : t < W.prog.length) (i : Int) (hi : i = t) :
    Calls Try.prog 86 #[.agg #[V], .agg (msOf W).cells, .int .i64 i] w fun e w' => e = .returned (thV (thOf W t)) ∧ Below w.heap.size w w' := by
  subst hi
  have po := progL_po G
  have ok := msOf_ok G
  have hp2 : ProgIn (boxes w V (msOf W)) B V (progL W) := (hp.alloc (.cells #[V] 72)).alloc (.cells (msOf W).cells 95)
  have hp3 := hp2.alloc (.cells #[.int .i64 0, .int .i64 0, .string ⟨#[]⟩, .int .i64 0] 64)
  have hK := Look_in V (progL W) (msOf W) ok _ B hp3 po.l5 po.sok t (by rw [progL_len]; exact ht) _ rfl
  rw [look_sim G ht] at hK
  have hH := fun w' => HoldsM_any (msOf W) ok t _ rfl w'
  have hho : holdsLoop (msOf W).ow t 0 ⟨#[]⟩ = holdsOf W t := rfl
  rw [hho] at hH
  obtain ⟨n, hn⟩ := get_some W.place t (by rw [G.ok.nl]; exact ht)
  have hth : thOf W t = ⟨stateOf W t, n, holdsOf W t, waitsOf W t⟩ := by unfold thOf; rw [hn]; rfl
  rw [hth]
  have hn' : (msOf W).pl[t]? = some n := by rw [msOf_pl G ht]; exact hn
  have hst0 : StIn (boxes w V (msOf W)) (w.heap.size + 1) (msOf W) := ⟨heap_alloc2_new _ _ _, ok⟩
  have hst := hst0.alloc (.cells #[.int .i64 0, .int .i64 0, .string ⟨#[]⟩, .int .i64 0] 64)
  have hc0 : (boxes w V (msOf W)).cell? ⟨w.heap.size, 0, none⟩ = some V := cellB (heap_alloc2_old _ _ _) rfl
  have hc1 := cell_later ((Below.refl _ _).alloc (Nat.le_refl _) (.cells #[.int .i64 0, .int .i64 0, .string ⟨#[]⟩, .int .i64 0] 64)) hc0
  have hB0 : Below w.heap.size w ((boxes w V (msOf W)).alloc (.cells #[.int .i64 0, .int .i64 0, .string ⟨#[]⟩, .int .i64 0] 64)) := (two_new ((Below.refl _ _).alloc (Nat.le_refl _) _)).2.2.1
  have hs3 : (boxes w V (msOf W)).heap.size = w.heap.size + 2 := by simp
  have hld := hst.loadS
  have t0 : (0 : Int) ≤ (t : Int) := by omega
  have t5 : (t : Int) < 5 := by have := G.n5; omega
  have t5' : t < 5 := by have := G.n5; omega
  generalize stateOf W t = st at *
  generalize waitsOf W t = wt at *
  generalize holdsOf W t = hs at *
  generalize msOf W = s at *
  clear hp hp2 hp3 hst0 hc0 hth hho hn po
  go_enter Try.func86, Try.ntmps86
  go_wp2_with (first
    | (go_at_call 106; refine hK.mono ?_; rintro e w1 ⟨he, hb⟩; rw [pairV] at he; subst he; obtain ⟨hc, hz, hlt, _⟩ := below_new hb; rw [hs3] at hc hz hlt; have q0 : w1.cell? ⟨w.heap.size + 2, 0, none⟩ = some (.int .i64 0) := hc 0 _ rfl; have q1 : w1.cell? ⟨w.heap.size + 2, 1, none⟩ = some (.int .i64 0) := hc 1 _ rfl; have q2 : w1.cell? ⟨w.heap.size + 2, 2, none⟩ = some (.string ⟨#[]⟩) := hc 2 _ rfl; have q3 : w1.cell? ⟨w.heap.size + 2, 3, none⟩ = some (.int .i64 0) := hc 3 _ rfl; clear hc; have hs1 := hst.below hb; have hld1 := hs1.loadS; have d5 := hs1.pl hn'))
  go_region_held3 (fun w' => w'.cell? ⟨w.heap.size + 1, 5 + t, none⟩ = some (.int .i64 n) ∧ (loadS (.pointer (some ⟨w.heap.size + 1, 0, none⟩))).run Try.prog w' = .ok (.agg s.cells) w')
    (first | exact ⟨d5, hld1⟩ | (refine ⟨cell_later ?_ d5, (hs1.below ?_).loadS⟩ <;> first | exact Below.refl _ _ | exact (Below.refl _ _).drew | exact hx1 | exact hx1.drew) | exact ⟨cell_set4 (show w.heap.size + 2 ≠ w.heap.size + 1 by omega) (cell_later hx1 d5), ((hs1.below hx1).set4 (by omega)).loadS⟩)
    (first | (go_at_call 110; refine (hH _).mono ?_; rintro e w2 ⟨rfl, hbb⟩; have hx1 : Below w1.heap.size w1 w2 := (by first | exact hbb | exact below_of_drew hbb); have q0' := cell_later hx1 q0; have q1' := cell_later hx1 q1; have q2' := cell_later hx1 q2; have q3' := cell_later hx1 q3; have z0' := frozen_later hx1 q0 (hz 0); have z1' := frozen_later hx1 q1 (hz 1); have z2' := frozen_later hx1 q2 (hz 2); have z3' := frozen_later hx1 q3 (hz 3)))
  go_wp2
  have hBw : Below w.heap.size w w2 := hB0.trans ((hb.trans (hx1.mono hb.size)).mono hB0.size)
  exact bodyPost_ret (v := thV ⟨st, n, hs, wt⟩) (by simp [results, Try.results86, go_sem, thV, q0', q1', q2', q3']) rfl ⟨rfl, (((hBw.setCell (p := ⟨w.heap.size + 2, 0, none⟩) (by simp) _).setCell (p := ⟨w.heap.size + 2, 1, none⟩) (by simp) _).setCell (p := ⟨w.heap.size + 2, 2, none⟩) (by simp) _).setCell (p := ⟨w.heap.size + 2, 3, none⟩) (by simp) _⟩
end Go.Proofs.Ytfdbnilopfnifaa
namespace Go.Proofs.Ytfdbnilopfnifaa
open Go.RowKit
attribute [local go_sem ↓] loadS_fold storeS_fold zeroS_fold

abbrev boxes3 (w : World) (V : Value) (s : MS) : World := (boxes w V s).alloc (.cells #[.slice none 0 0, .string ⟨#[]⟩] 32)
set_option maxRecDepth 100000 in
set_option maxHeartbeats 4000000 in
theorem View_any (V : Value) (W : Wd) (G : W.Good) (w : World) (B : Nat) (hp : ProgIn w B V (progL W)) :
    Calls Try.prog 55 #[.agg #[V], .agg (msOf W).cells] w fun e w' => ∃ g cap, e = .returned (.agg #[.slice (some ⟨g, 0, none⟩) W.prog.length cap, .string (flagsLoop W.set 0 ⟨#[]⟩)]) ∧ Below w.heap.size w w' ∧
      w'.ownsRow (w.heap.size + 3) 64 4 (.slice (some ⟨g, 0, none⟩) W.prog.length cap) W.prog.length ((thsOf W W.prog.length).flatMap thCells) := by
  have ok := msOf_ok G
  have HP : Hid (ProgIn (boxes3 w V (msOf W)) B V (progL W)) := (((hp.alloc (.cells #[V] 72)).alloc (.cells (msOf W).cells 95))).alloc _
  have hst0 : StIn (boxes w V (msOf W)) (w.heap.size + 1) (msOf W) := ⟨heap_alloc2_new _ _ _, ok⟩
  have hst : StIn (boxes3 w V (msOf W)) (w.heap.size + 1) (msOf W) := hst0.alloc _
  have hc0 : (boxes w V (msOf W)).cell? ⟨w.heap.size, 0, none⟩ = some V := cellB (heap_alloc2_old _ _ _) rfl
  have hc1 : (boxes3 w V (msOf W)).cell? ⟨w.heap.size, 0, none⟩ = some V := cell_later ((Below.refl _ _).alloc (Nat.le_refl _) _) hc0
  have hb2 : (boxes w V (msOf W)).heap.size = w.heap.size + 2 := by simp
  have hr0 := heap_alloc_new (boxes w V (msOf W)) (.cells #[.slice none 0 0, .string ⟨#[]⟩] 32)
  rw [hb2] at hr0
  have hbs : (boxes3 w V (msOf W)).heap.size = w.heap.size + 3 := by simp
  have hB0 : Below w.heap.size w (boxes3 w V (msOf W)) := (two_new ((Below.refl _ _).alloc (Nat.le_refl _) _)).2.2.1
  have hn5 := G.n5
  have hfl : flagsLoop (msOf W).fl 0 ⟨#[]⟩ = flagsLoop W.set 0 ⟨#[]⟩ := rfl
  have hFl := fun w' => flagsSet_any (msOf W) ok w'
  rw [hfl] at hFl
  generalize flagsLoop W.set 0 ⟨#[]⟩ = fl at *
  clear hp hst0 hc0 hfl
  go_enter Try.func55, Try.ntmps55
  go_wp2
  go_loopw [5, 6] (fun v i wr => ∃ t g cap : Nat, t ≤ W.prog.length ∧ i = .int .i64 t ∧ v = .slice (some ⟨g, 0, none⟩) t cap ∧ wr.ownsRow (w.heap.size + 3) 64 4 (.slice (some ⟨g, 0, none⟩) t cap) t ((thsOf W t).flatMap thCells) ∧ Below (w.heap.size + 3) (boxes3 w V (msOf W)) wr) (fun _ i _ => W.prog.length - (intOf i).toNat)
  case atStart =>
    refine ⟨0, w.heap.size + 3, 0, by omega, rfl, rfl, ?_, ?_⟩
    · have h := World.ownsRow_lit (boxes3 w V (msOf W)) (base := w.heap.size + 3) (e := 64) (size := 4) #[] 0 (by simp) (Nat.zero_le _) rfl
      simpa [thsOf] using h
    · rw [← hbs]; exact (Below.refl _ _).alloc (Nat.le_refl _) _
  case round =>
    obtain ⟨t, g, cap, ht, rfl, rfl, hown, hB⟩ := hrel
    have hB' : Below (boxes3 w V (msOf W)).heap.size (boxes3 w V (msOf W)) wr := by rw [hbs]; exact hB
    have hsz : w.heap.size + 3 ≤ wr.heap.size := by rw [← hbs]; exact hB'.size
    have hsr := hst.below hB'
    have p0 := cell_later hB' hc1
    have hT := Threads_any V (progL W) wr B (HP.out.below hB')
    rw [progL_len] at hT
    have hgl := hown.lt g rfl
    by_cases htn : t < W.prog.length
    · have hV := fun w' hw => viewThread_any V W G w' B ((HP.out.below hB').below (w' := w') hw) t htn _ rfl
      have htl : (t : Int) < (W.prog.length : Int) := by omega
      have HTH : Hid (thsOf W (t + 1) = thsOf W t ++ [thOf W t]) := thsOf_succ W t
      have hvt : thV (thOf W t) = .agg (thCells (thOf W t)).toArray := rfl
      generalize thOf W t = th at *
      obtain ⟨st, pl, hs, wt⟩ := th
      rw [thV] at hV
      clear hvt
      go_wp2_with (first
        | (go_at_call 85; refine hT.mono ?_; rintro e w1 ⟨rfl, hb1⟩; have p1 := cell_later hb1 p0; have hld := (hsr.below hb1).loadS)
        | (go_at_call 86; refine (hV _ hb1).mono ?_; rintro e w2 ⟨rfl, hb2⟩; have hB2 := hb1.trans (hb2.mono hb1.size); have hown2 := hown.kept (grownBy_of_below hB2) (.inr (by simp [Value.ownBlock])))
        | (at_builtin; go_loud (refine wpList_appendLit _ rfl _ _ 30 rfl (w.heap.size + 3) 64 (.agg #[.int .i64 0, .int .i64 0, .string ⟨#[]⟩, .int .i64 0]) 4 40 Try.underlying30 infoThread rfl (by decide) _ _ _ rfl hown2 _ _ rfl rfl rfl ?c2 ?c3 ?c4 ?c5 ?_)))
      case c2 => exact ⟨rfl, rfl, rfl, rfl⟩
      case c3 => omega
      case c4 => omega
      case c5 => have := hB2.size; omega
      intro v' w3 ho3 hg3 hf3 hn3
      have h1 := hB.trans (hB2.mono hsz)
      have hsz2 := hB2.size
      have hB3 : Below (w.heap.size + 3) (boxes3 w V (msOf W)) w3 := below_grown (h1.alloc (by omega) _) (by simp; omega) hg3 (fun k hk => by simp [Value.ownBlock] at hk; omega)
      obtain ⟨g', cap', hv3⟩ := row_form ho3 hn3
      subst hv3
      clear hg3 hf3 hn3 hown hown2
      go_wp2
      go_roundw
      case rel =>
        refine ⟨t + 1, g', cap', by omega, rfl, rfl, ?_, hB3⟩
        rw [HTH.out]
        simpa [thCells] using ho3
      case measure => simp [intOf]; omega
    · have hte : t = W.prog.length := by omega
      have htl : ¬ (t : Int) < (W.prog.length : Int) := by omega
      have r0 := (hB'.block (w.heap.size + 2) (by rw [hbs]; omega)).trans hr0
      go_wp2_with (first
        | (go_at_call 85; refine hT.mono ?_; rintro e w1 ⟨rfl, hb1⟩; have hld := (hsr.below hb1).loadS)
        | (go_at_call 87; refine (hFl _).mono ?_; rintro e w2 ⟨rfl, hb3⟩; have hx := hb1.trans (hb3.mono hb1.size); have r2 := (hx.block (w.heap.size + 2) (by omega)).trans r0; have q0 : w2.cell? ⟨w.heap.size + 2, 0, none⟩ = some (.slice none 0 0) := cellB r2 rfl; have q1 : w2.cell? ⟨w.heap.size + 2, 1, none⟩ = some (.string ⟨#[]⟩) := cellB r2 rfl; have z0 := frozen_of_row _ _ 0 _ _ r2; have z1 := frozen_of_row _ _ 1 _ _ r2))
      subst hte
      have ho2 := hown.kept (grownBy_of_below hx) (.inr (by simp [Value.ownBlock]))
      have hBw : Below w.heap.size w w2 := hB0.trans ((hB'.trans (hx.mono hB'.size)).mono hB0.size)
      refine bodyPost_ret (v := .agg #[.slice (some ⟨g, 0, none⟩) W.prog.length cap, .string fl]) (by simp [results, Try.results55, go_sem, q0, q1]) rfl ⟨g, cap, rfl, ?_, ?_⟩
      · exact (hBw.setCell (p := ⟨w.heap.size + 2, 0, none⟩) (by simp) _).setCell (p := ⟨w.heap.size + 2, 1, none⟩) (by simp) _
      · exact ownsRow_setCell_below (ownsRow_setCell_below ho2 (a := ⟨w.heap.size + 2, 0, none⟩) (by simp) _) (a := ⟨w.heap.size + 2, 1, none⟩) (by simp) _
end Go.Proofs.Ytfdbnilopfnifaa
namespace Go.Proofs.Ytfdbnilopfnifaa
open Go.RowKit
attribute [local go_sem ↓] loadS_fold storeS_fold zeroS_fold

abbrev vw (w : World) : World := w.alloc (.cells #[.slice none 0 0, .string ⟨#[]⟩] 32)
def badV (a : Int) : Value := .tuple #[.agg #[.slice none 0 0, .string ⟨#[]⟩], .int .i64 a]

set_option maxRecDepth 100000 in
set_option maxHeartbeats 2000000 in
theorem replay_bad (s sch : ByteArray) (w : World) (a : Int) (h : a ≠ 0) (hf : ∀ w, Calls Try.prog 53 #[.string s, .string sch] w fun e w' => e = .returned (noneV a) ∧ Below w.heap.size w w') :
    Calls Try.prog 19 #[.string s, .string sch] w fun e w' => e = .returned (badV a) ∧ Below w.heap.size w w' := by
  have ha : (a != 0) = true := by simpa using h
  have hF := hf (vw w)
  have hz : zeroM.cells = zeroS := zero_firstK
  rw [noneV, hz] at hF
  clear hf
  go_enter Try.func19, Try.ntmps19
  go_upto_region 1 with fail
  go_cut [6, 7, 8] (fun x y z wc => z = .int .i64 a ∧ wc.heap[w.heap.size]? = some (.cells #[.slice none 0 0, .string ⟨#[]⟩] 32 (0, 0)) ∧ Below w.heap.size w wc)
  case first =>
    go_wp2_with (first | (go_at_call 53; refine hF.mono ?_; rintro e w1 ⟨rfl, hb⟩; have hst := storeS_run (s := zeroM) (heap_alloc2_new w1 (.cells #[.slice none 0 0] 72) (.cells zeroS 95)) rfl (firstK_ok _ _ (by omega)); rw [hz] at hst))
    go_meet
    case rel =>
      have hX : Below w1.heap.size w1 (((w1.alloc (.cells #[.slice none 0 0] 72)).alloc (.cells zeroS 95)).setRow (w1.heap.size + 1) zeroS) := Below.setRow (two_new (Below.refl _ _)).2.2.1 (by omega) _
      have hb' := hb.trans (hX.mono hb.size)
      refine ⟨rfl, (hb'.block w.heap.size (by simp)).trans (heap_alloc_new _ _), ((Below.refl w.heap.size w).alloc (Nat.le_refl _) _).trans (hb'.mono (by simp))⟩
  case rest =>
    obtain ⟨rfl, b4, hB⟩ := hcut
    have q0 : wc.cell? ⟨w.heap.size, 0, none⟩ = some (.slice none 0 0) := cellB b4 rfl
    have q1 : wc.cell? ⟨w.heap.size, 1, none⟩ = some (.string ⟨#[]⟩) := cellB b4 rfl
    have z0 := frozen_of_row _ _ 0 _ _ b4
    have z1 := frozen_of_row _ _ 1 _ _ b4
    clear hF
    go_wp2
    exact bodyPost_ret (v := badV a) (by simp [results, Try.results19, go_sem, badV, q0, q1]) rfl ⟨rfl, (hB.setCell (p := ⟨w.heap.size, 0, none⟩) (Nat.le_refl _) _).setCell (p := ⟨w.heap.size, 1, none⟩) (Nat.le_refl _) _⟩

set_option maxRecDepth 100000 in
set_option maxHeartbeats 2000000 in
theorem replay_ok (s sch : ByteArray) (hsch : sch.size ≤ maxLen) (w : World) (h : (ckP s).1 = 0) (W : Wd) (hW : toLoop sch (beginW (thLoop s 0 0 [])) 0 = some W) :
    Calls Try.prog 19 #[.string s, .string sch] w fun e w' => ∃ g cap, e = .returned (.tuple #[.agg #[.slice (some ⟨g, 0, none⟩) W.prog.length cap, .string (flagsLoop W.set 0 ⟨#[]⟩)], .int .i64 0]) ∧ Below w.heap.size w w' ∧
      w'.ownsRow (w.heap.size + 1) 64 4 (.slice (some ⟨g, 0, none⟩) W.prog.length cap) W.prog.length ((thsOf W W.prog.length).flatMap thCells) := by
  have I0 := begin_inv s h
  obtain ⟨IW, hpg⟩ := toLoop_inv sch _ 0 _ W rfl I0 hW
  have hF := follow_ok s sch hsch (vw w) h W hW IW
  have hpl : progL (beginW (thLoop s 0 0 [])) = progL W := by rw [progL, progL, hpg]
  rw [hpl] at hF
  have hVw := fun V w' hp => View_any V W IW.good w' (vw w).heap.size hp
  have okW := msOf_ok IW.good
  clear hpl I0 h hW hpg
  generalize flagsLoop W.set 0 ⟨#[]⟩ = fl at *
  generalize msOf W = sW at *
  generalize progL W = LW at *
  go_enter Try.func19, Try.ntmps19
  go_wp2_with (first
    | (go_at_call 53; refine hF.mono ?_; rintro e w1 ⟨V, rfl, hb, hP⟩; obtain ⟨gg, cc, hVe, _⟩ := id hP; subst hVe; have hst := storeS_run (s := sW) (heap_alloc2_new w1 (.cells #[.slice (some ⟨gg, 0, none⟩) LW.length cc] 72) (.cells zeroS 95)) rfl okW; obtain ⟨kX, hlX, hPX, hbX⟩ := res_in (w := vw w) hb hP okW)
    | (go_at_call 55; refine (hVw _ _ hPX).mono ?_; rintro e w2 ⟨g, cap, rfl, hb2, ho2⟩; have hbY := hbX.trans (hb2.mono hbX.size); have b4 := (hbY.block w.heap.size (by simp)).trans (heap_alloc_new w _); have q0 : w2.cell? ⟨w.heap.size, 0, none⟩ = some (.slice none 0 0) := cellB b4 rfl; have q1 : w2.cell? ⟨w.heap.size, 1, none⟩ = some (.string ⟨#[]⟩) := cellB b4 rfl; have z0 := frozen_of_row _ _ 0 _ _ b4; have z1 := frozen_of_row _ _ 1 _ _ b4))
  have hBw : Below w.heap.size w w2 := ((Below.refl w.heap.size w).alloc (Nat.le_refl _) _).trans (hbY.mono (by simp))
  have hszX := hbX.size
  have hvs : (vw w).heap.size = w.heap.size + 1 := by simp
  have ho3 : w2.ownsRow (w.heap.size + 1) 64 4 (.slice (some ⟨g, 0, none⟩) W.prog.length cap) W.prog.length ((thsOf W W.prog.length).flatMap thCells) := ownsRow_mono ho2 (by omega)
  refine bodyPost_ret (v := .tuple #[.agg #[.slice (some ⟨g, 0, none⟩) W.prog.length cap, .string fl], .int .i64 0]) (by simp [results, Try.results19, go_sem, q0, q1]) rfl ⟨g, cap, rfl, ?_, ?_⟩
  · exact (hBw.setCell (p := ⟨w.heap.size, 0, none⟩) (Nat.le_refl _) _).setCell (p := ⟨w.heap.size, 1, none⟩) (Nat.le_refl _) _
  · exact ownsRow_setCell_below (ownsRow_setCell_below ho3 (a := ⟨w.heap.size, 0, none⟩) (by simp) _) (a := ⟨w.heap.size, 1, none⟩) (by simp) _
end Go.Proofs.Ytfdbnilopfnifaa
namespace Go.Proofs.Ytfdbnilopfnifaa
open Go.RowKit

def lit0 : ByteArray := ⟨#[62, 49, 59, 97, 98]⟩
theorem lit0_ck : (ckP lit0).1 = 0 := by decide +kernel
theorem lit0_run : resumeL ⟨#[]⟩ 61 (beginW (thLoop lit0 0 0 [])) [] = ([0, 1, 1], 1) := by decide +kernel
theorem lit0_to : toLoop ⟨#[]⟩ (beginW (thLoop lit0 0 0 [])) 0 = some (beginW (thLoop lit0 0 0 [])) := by rw [toLoop, if_neg (by decide)]
theorem lit0_V : resumeV lit0 ⟨#[]⟩ ⟨#[]⟩ = .tuple #[.string ⟨#[48, 49, 49]⟩, .int .i64 1, .int .i64 0] := by
  rw [resumeV, if_neg (by rw [lit0_ck]; decide), lit0_to]
  simp only [lit0_run]
  rfl

theorem toLoop_go (sch : ByteArray) : ∀ (ms : List Nat) (k : Nat) (W : Wd), W.Inv → k + ms.length ≤ sch.size → (∀ i (h : i < ms.length), byteI sch (k + i) = 48 + (ms[i] : Nat)) → toLoop sch W k = (goL W ms).bind fun V => toLoop sch V (k + ms.length)
  | [], k, W, _, _, _ => by simp [goL]
  | t :: ms, k, W, I, hl, hb => by
    have hb0 := hb 0 (by simp)
    simp only [Nat.add_zero, List.getElem_cons_zero] at hb0
    have h5 := I.good.n5
    have hlen : k < sch.size := by simp at hl; omega
    rw [toLoop, if_pos hlen, hb0]
    have e : ((48 : Int) + (t : Int) - 48).toNat = t := by omega
    rw [e, goL]
    by_cases hc : t < W.prog.length ∧ stateOf W t = 1
    · rw [if_pos hc, if_pos ⟨by omega, by omega, by omega, hc.2⟩]
      rw [toLoop_go sch ms (k + 1) _ (moveT_inv I hc.1 hc.2) (by simp at hl; omega) (fun i hi => by
        have := hb (i + 1) (by simpa using hi)
        rw [show k + 1 + i = k + (i + 1) by omega]
        simpa using this)]
      congr 1
      funext V
      congr 1
      simp; omega
    · rw [if_neg hc, if_neg (fun h => hc ⟨by omega, h.2.2.2⟩)]
      rfl
theorem byteI_dig (l : List Nat) (hl : ∀ t ∈ l, t ≤ 100) (k : Nat) (h : k < l.length) : byteI (digS l) k = 48 + (l[k] : Nat) := by
  have h' : k < (digS l).size := by rw [digS_size]; exact h
  rw [← byteI_in h', digS_get l k h' hl]
theorem toLoop_dig (W : Wd) (I : W.Inv) (l : List Nat) (hl : ∀ t ∈ l, t ≤ 100) : toLoop (digS l) W 0 = goL W l := by
  rw [toLoop_go (digS l) l 0 W I (by rw [digS_size]; omega) (fun i hi => by rw [Nat.zero_add]; exact byteI_dig l hl i hi)]
  cases goL W l with
  | none => rfl
  | some V => simp only [Option.bind_some]; rw [toLoop, if_neg (by rw [digS_size]; omega)]
/-- A sign that is no digit behind a schedule. -/
theorem toLoop_slash (W : Wd) (I : W.Inv) (l : List Nat) (hl : ∀ t ∈ l, t ≤ 100) (sch : ByteArray) (hs : sch = digS l ++ ⟨#[47]⟩) : toLoop sch W 0 = none := by
  have hsz : sch.size = l.length + 1 := by rw [hs, ByteArray.size_append, digS_size]; rfl
  have hget : ∀ i (h : i < l.length), byteI sch (0 + i) = 48 + (l[i] : Nat) := fun i hi => by
    rw [← byteI_dig l hl i hi, Nat.zero_add]
    have h1 : i < (digS l).size := by rw [digS_size]; exact hi
    have h2 : i < sch.size := by omega
    rw [← byteI_in h1, ← byteI_in h2]
    subst hs
    rw [ByteArray.getElem_append_left h1]
  have hlast : byteI sch l.length = 47 := by
    have h2 : l.length < sch.size := by omega
    rw [← byteI_in h2]
    subst hs
    rw [ByteArray.getElem_append_right (by rw [digS_size]; exact Nat.le_refl _)]
    simp only [digS_size, Nat.sub_self]
    rfl
  rw [toLoop_go sch l 0 W I (by omega) hget]
  cases goL W l with
  | none => rfl
  | some V =>
    simp only [Option.bind_some, Nat.zero_add]
    rw [toLoop, if_pos (by omega), hlast, if_neg (by omega)]

theorem mayLoop_al (W : Wd) : ∀ (n t : Nat) (l : List Nat) (al : Bool), W.prog.length - t = n → ((mayLoop W t l al).2 = true ↔ al = true ∨ ∃ u, t ≤ u ∧ u < W.prog.length ∧ (stateOf W u = 2 ∨ stateOf W u = 3)) := by
  intro n
  induction n with
  | zero =>
    intro t l al hn
    rw [mayLoop, if_neg (by omega)]
    constructor
    · exact fun h => .inl h
    · rintro (h | ⟨u, h1, h2, _⟩)
      · exact h
      · omega
  | succ n ih =>
    intro t l al hn
    rw [mayLoop, if_pos (by omega), ih (t + 1) _ _ (by omega)]
    constructor
    · rintro (h | ⟨u, h1, h2, h3⟩)
      · simp only [Bool.or_eq_true, decide_eq_true_eq] at h
        rcases h with (h | h) | h
        · exact .inl h
        · exact .inr ⟨t, Nat.le_refl _, by omega, .inl h⟩
        · exact .inr ⟨t, Nat.le_refl _, by omega, .inr h⟩
      · exact .inr ⟨u, by omega, h2, h3⟩
    · rintro (h | ⟨u, h1, h2, h3⟩)
      · left; simp [h]
      · by_cases hu : u = t
        · subst hu; left; rcases h3 with h3 | h3 <;> simp [h3]
        · exact .inr ⟨u, by omega, h2, h3⟩
theorem mayW_none {W : Wd} (G : W.Good) (h : mayW W = []) : ∀ u, u < W.prog.length → stateOf W u ≠ 1 ∧ stateOf W u ≠ 5 := by
  have hm : mayW W = moversL (progL W) (msOf W) W.prog.length := movers_sim G _ 0 false rfl (Nat.zero_le _)
  rw [hm] at h
  exact movers_none G h

/-- What stands where a run has ended. -/
inductive Ends (W : Wd) : Int → Prop
  | done : (∀ u, u < W.prog.length → stateOf W u = 0 ∨ stateOf W u = 4) → Ends W 1
  | stuck : (∀ u, u < W.prog.length → stateOf W u ≠ 1 ∧ stateOf W u ≠ 5) → (∃ u, u < W.prog.length ∧ (stateOf W u = 2 ∨ stateOf W u = 3)) → Ends W 2
  | fault : (∃ u, u < W.prog.length ∧ stateOf W u = 5) → Ends W 3
theorem RunsTo.ends {p : ByteArray} {W WE : Wd} {j : Nat} {ms : List Nat} {h : Int} (r : RunsTo p W j ms h WE) (I : W.Inv) : Ends WE h := by
  induction r with
  | @stop W j hm =>
    have hn := mayW_none I.good hm
    have ha := mayLoop_al W _ 0 [] false rfl
    split
    · rename_i hal
      rcases ha.1 hal with h | ⟨u, _, h2, h3⟩
      · cases h
      · exact .stuck hn ⟨u, h2, h3⟩
    · rename_i hal
      refine .done fun u hu => ?_
      have h1 := hn u hu
      have h2 := stateOf_range W u
      have h3 : ¬ (stateOf W u = 2 ∨ stateOf W u = 3) := fun h => hal (ha.2 (.inr ⟨u, Nat.zero_le _, hu, h⟩))
      omega
  | fault hm hs => exact .fault ⟨_, (mayW_mem (pickW_mem p _ hm)).1, hs⟩
  | move hm hs ht _ ih => exact ih (moveT_inv I ht hs)
end Go.Proofs.Ytfdbnilopfnifaa
