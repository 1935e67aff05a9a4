import Derived.Test.YtdfndcbakcmgiabDoorE17
import Derived.Test.YtdfndcbakcmgiabDoorE16
import Derived.Test.YtdfndcbakcmgiabDoorD1
import Derived.Test.YtdfndcbakcmgiabDoorChecks
import Derived.WalkSpells
namespace Go.Proofs.YtdfndcbakcmgiabDoor
open Go.RowKit
attribute [local go_sem ↓] loadS_fold storeS_fold zeroS_fold

abbrev boxes3 (w : World) (V : Value) (s : MS) : World := (boxes w V s).alloc (.cells #[.slice none 0 0, .string ⟨#[]⟩] 66)
set_option maxRecDepth 100000 in
set_option maxHeartbeats 4000000 in
theorem View_any (V : Value) (W : Wd) (G : W.Good) (w : World) (B : Nat) (hp : ProgIn w B V (progL W)) :
    Calls Tryd.prog 39 #[.agg #[V], .agg (msOf W).cells] w fun e w' => ∃ g cap, e = .returned (.agg #[.slice (some ⟨g, 0, none⟩) W.prog.length cap, .string (flagsLoop W.set 0 ⟨#[]⟩)]) ∧ Below w.heap.size w w' ∧
      w'.ownsRow (w.heap.size + 3) 70 4 (.slice (some ⟨g, 0, none⟩) W.prog.length cap) W.prog.length ((thsOf W W.prog.length).flatMap thCells) := by
  have ok := msOf_ok G
  have HP : Hid (ProgIn (boxes3 w V (msOf W)) B V (progL W)) := (((hp.alloc (.cells #[V] 60)).alloc (.cells (msOf W).cells 79))).alloc _
  have hst0 : StIn (boxes w V (msOf W)) (w.heap.size + 1) (msOf W) := ⟨heap_alloc2_new _ _ _, ok⟩
  have hst : StIn (boxes3 w V (msOf W)) (w.heap.size + 1) (msOf W) := hst0.alloc _
  have hc0 : (boxes w V (msOf W)).cell? ⟨w.heap.size, 0, none⟩ = some V := cellB (heap_alloc2_old _ _ _) rfl
  have hc1 : (boxes3 w V (msOf W)).cell? ⟨w.heap.size, 0, none⟩ = some V := cell_later ((Below.refl _ _).alloc (Nat.le_refl _) _) hc0
  have hb2 : (boxes w V (msOf W)).heap.size = w.heap.size + 2 := by simp
  have hr0 := heap_alloc_new (boxes w V (msOf W)) (.cells #[.slice none 0 0, .string ⟨#[]⟩] 66)
  rw [hb2] at hr0
  have hbs : (boxes3 w V (msOf W)).heap.size = w.heap.size + 3 := by simp
  have hB0 : Below w.heap.size w (boxes3 w V (msOf W)) := (two_new ((Below.refl _ _).alloc (Nat.le_refl _) _)).2.2.1
  have hn5 := G.n5
  have hfl : flagsLoop (msOf W).fl 0 ⟨#[]⟩ = flagsLoop W.set 0 ⟨#[]⟩ := rfl
  have hFl := fun w' => flagsSet_any (msOf W) ok w'
  rw [hfl] at hFl
  generalize flagsLoop W.set 0 ⟨#[]⟩ = fl at *
  clear hp hst0 hc0 hfl
  go_enter Tryd.func39, Tryd.ntmps39
  go_wp2
  go_loopw [5, 6] (fun v i wr => ∃ t g cap : Nat, t ≤ W.prog.length ∧ i = .int .i64 t ∧ v = .slice (some ⟨g, 0, none⟩) t cap ∧ wr.ownsRow (w.heap.size + 3) 70 4 (.slice (some ⟨g, 0, none⟩) t cap) t ((thsOf W t).flatMap thCells) ∧ Below (w.heap.size + 3) (boxes3 w V (msOf W)) wr) (fun _ i _ => W.prog.length - (intOf i).toNat)
  case atStart =>
    refine ⟨0, w.heap.size + 3, 0, by omega, rfl, rfl, ?_, ?_⟩
    · have h := World.ownsRow_lit (boxes3 w V (msOf W)) (base := w.heap.size + 3) (e := 70) (size := 4) #[] 0 (by simp) (Nat.zero_le _) rfl
      simpa [thsOf] using h
    · rw [← hbs]; exact (Below.refl _ _).alloc (Nat.le_refl _) _
  case round =>
    obtain ⟨t, g, cap, ht, rfl, rfl, hown, hB⟩ := hrel
    have hB' : Below (boxes3 w V (msOf W)).heap.size (boxes3 w V (msOf W)) wr := by rw [hbs]; exact hB
    have hsz : w.heap.size + 3 ≤ wr.heap.size := by rw [← hbs]; exact hB'.size
    have hsr := hst.below hB'
    have p0 := cell_later hB' hc1
    have hT := Threads_any V (progL W) wr B (HP.out.below hB')
    rw [progL_len] at hT
    have hgl := hown.lt g rfl
    by_cases htn : t < W.prog.length
    · have hV := fun w' hw => viewThread_any V W G w' B ((HP.out.below hB').below (w' := w') hw) t htn _ rfl
      have htl : (t : Int) < (W.prog.length : Int) := by omega
      have HTH : Hid (thsOf W (t + 1) = thsOf W t ++ [thOf W t]) := thsOf_succ W t
      have hvt : thV (thOf W t) = .agg (thCells (thOf W t)).toArray := rfl
      generalize thOf W t = th at *
      obtain ⟨st, pl, hs, wt⟩ := th
      rw [thV] at hV
      clear hvt
      go_wp2_with (first
        | (go_at_call 52; refine hT.mono ?_; rintro e w1 ⟨rfl, hb1⟩; have p1 := cell_later hb1 p0; have hld := (hsr.below hb1).loadS)
        | (go_at_call 55; refine (hV _ hb1).mono ?_; rintro e w2 ⟨rfl, hb2⟩; have hB2 := hb1.trans (hb2.mono hb1.size); have hown2 := hown.kept (grownBy_of_below hB2) (.inr (by simp [Value.ownBlock])))
        | (at_builtin; go_loud (refine wpList_appendLit _ rfl _ _ 64 rfl (w.heap.size + 3) 70 (.agg #[.int .i64 0, .int .i64 0, .string ⟨#[]⟩, .int .i64 0]) 4 40 Tryd.underlying64 infoThread rfl (by decide) _ _ _ rfl hown2 _ _ rfl rfl rfl ?c2 ?c3 ?c4 ?c5 ?_)))
      case c2 => exact ⟨rfl, rfl, rfl, rfl⟩
      case c3 => omega
      case c4 => omega
      case c5 => have := hB2.size; omega
      intro v' w3 ho3 hg3 hf3 hn3
      have h1 := hB.trans (hB2.mono hsz)
      have hsz2 := hB2.size
      have hB3 : Below (w.heap.size + 3) (boxes3 w V (msOf W)) w3 := below_grown (h1.alloc (by omega) _) (by simp; omega) hg3 (fun k hk => by simp [Value.ownBlock] at hk; omega)
      obtain ⟨g', cap', hv3⟩ := row_form ho3 hn3
      subst hv3
      clear hg3 hf3 hn3 hown hown2
      go_wp2
      go_roundw
      case rel =>
        refine ⟨t + 1, g', cap', by omega, rfl, rfl, ?_, hB3⟩
        rw [HTH.out]
        simpa [thCells] using ho3
      case measure => simp [intOf]; omega
    · have hte : t = W.prog.length := by omega
      have htl : ¬ (t : Int) < (W.prog.length : Int) := by omega
      have r0 := (hB'.block (w.heap.size + 2) (by rw [hbs]; omega)).trans hr0
      go_wp2_with (first
        | (go_at_call 52; refine hT.mono ?_; rintro e w1 ⟨rfl, hb1⟩; have hld := (hsr.below hb1).loadS)
        | (go_at_call 56; refine (hFl _).mono ?_; rintro e w2 ⟨rfl, hb3⟩; have hx := hb1.trans (hb3.mono hb1.size); have r2 := (hx.block (w.heap.size + 2) (by omega)).trans r0; have q0 : w2.cell? ⟨w.heap.size + 2, 0, none⟩ = some (.slice none 0 0) := cellB r2 rfl; have q1 : w2.cell? ⟨w.heap.size + 2, 1, none⟩ = some (.string ⟨#[]⟩) := cellB r2 rfl; have z0 := frozen_of_row _ _ 0 _ _ r2; have z1 := frozen_of_row _ _ 1 _ _ r2))
      subst hte
      have ho2 := hown.kept (grownBy_of_below hx) (.inr (by simp [Value.ownBlock]))
      have hBw : Below w.heap.size w w2 := hB0.trans ((hB'.trans (hx.mono hB'.size)).mono hB0.size)
      refine bodyPost_ret (v := .agg #[.slice (some ⟨g, 0, none⟩) W.prog.length cap, .string fl]) (by simp [results, Tryd.results39, go_sem, q0, q1]) rfl ⟨g, cap, rfl, ?_, ?_⟩
      · exact (hBw.setCell (p := ⟨w.heap.size + 2, 0, none⟩) (by simp) _).setCell (p := ⟨w.heap.size + 2, 1, none⟩) (by simp) _
      · exact ownsRow_setCell_below (ownsRow_setCell_below ho2 (a := ⟨w.heap.size + 2, 0, none⟩) (by simp) _) (a := ⟨w.heap.size + 2, 1, none⟩) (by simp) _
end Go.Proofs.YtdfndcbakcmgiabDoor
namespace Go.Proofs.YtdfndcbakcmgiabDoor
open Go.RowKit
attribute [local go_sem ↓] loadS_fold storeS_fold zeroS_fold

abbrev vw (w : World) : World := w.alloc (.cells #[.slice none 0 0, .string ⟨#[]⟩] 66)
def badV (a : Int) : Value := .tuple #[.agg #[.slice none 0 0, .string ⟨#[]⟩], .int .i64 a]

set_option maxRecDepth 100000 in
set_option maxHeartbeats 2000000 in
theorem replay_bad (s sch : ByteArray) (w : World) (a : Int) (h : a ≠ 0) (hf : ∀ w, Calls Tryd.prog 26 #[.string s, .string sch] w fun e w' => e = .returned (noneV a) ∧ Below w.heap.size w w') :
    Calls Tryd.prog 24 #[.string s, .string sch] w fun e w' => e = .returned (badV a) ∧ Below w.heap.size w w' := by
  have ha : (a != 0) = true := by simpa using h
  have hF := hf (vw w)
  have hz : zeroM.cells = zeroS := zero_firstK
  rw [noneV, hz] at hF
  clear hf
  go_enter Tryd.func24, Tryd.ntmps24
  go_upto_region 1 with fail
  go_cut [6, 7, 8] (fun x y z wc => z = .int .i64 a ∧ wc.heap[w.heap.size]? = some (.cells #[.slice none 0 0, .string ⟨#[]⟩] 66 (0, 0)) ∧ Below w.heap.size w wc)
  case first =>
    go_wp2_with (first | (go_at_call 26; refine hF.mono ?_; rintro e w1 ⟨rfl, hb⟩; have hst := storeS_run (s := zeroM) (heap_alloc2_new w1 (.cells #[.slice none 0 0] 60) (.cells zeroS 79)) rfl (firstK_ok _ _ (by omega)); rw [hz] at hst))
    go_meet
    case rel =>
      have hX : Below w1.heap.size w1 (((w1.alloc (.cells #[.slice none 0 0] 60)).alloc (.cells zeroS 79)).setRow (w1.heap.size + 1) zeroS) := Below.setRow (two_new (Below.refl _ _)).2.2.1 (by omega) _
      have hb' := hb.trans (hX.mono hb.size)
      refine ⟨rfl, (hb'.block w.heap.size (by simp)).trans (heap_alloc_new _ _), ((Below.refl w.heap.size w).alloc (Nat.le_refl _) _).trans (hb'.mono (by simp))⟩
  case rest =>
    obtain ⟨rfl, b4, hB⟩ := hcut
    have q0 : wc.cell? ⟨w.heap.size, 0, none⟩ = some (.slice none 0 0) := cellB b4 rfl
    have q1 : wc.cell? ⟨w.heap.size, 1, none⟩ = some (.string ⟨#[]⟩) := cellB b4 rfl
    have z0 := frozen_of_row _ _ 0 _ _ b4
    have z1 := frozen_of_row _ _ 1 _ _ b4
    clear hF
    go_wp2
    exact bodyPost_ret (v := badV a) (by simp [results, Tryd.results24, go_sem, badV, q0, q1]) rfl ⟨rfl, (hB.setCell (p := ⟨w.heap.size, 0, none⟩) (Nat.le_refl _) _).setCell (p := ⟨w.heap.size, 1, none⟩) (Nat.le_refl _) _⟩

set_option maxRecDepth 100000 in
set_option maxHeartbeats 2000000 in
theorem replay_ok (s sch : ByteArray) (hsch : sch.size ≤ maxLen) (w : World) (h : (ckP s).1 = 0) (W : Wd) (hW : toLoop sch (beginW (thLoop s 0 0 [])) 0 = some W) :
    Calls Tryd.prog 24 #[.string s, .string sch] w fun e w' => ∃ g cap, e = .returned (.tuple #[.agg #[.slice (some ⟨g, 0, none⟩) W.prog.length cap, .string (flagsLoop W.set 0 ⟨#[]⟩)], .int .i64 0]) ∧ Below w.heap.size w w' ∧
      w'.ownsRow (w.heap.size + 1) 70 4 (.slice (some ⟨g, 0, none⟩) W.prog.length cap) W.prog.length ((thsOf W W.prog.length).flatMap thCells) := by
  have I0 := begin_inv s h
  obtain ⟨IW, hpg⟩ := toLoop_inv sch _ 0 _ W rfl I0 hW
  have hF := follow_ok s sch hsch (vw w) h W hW IW
  have hpl : progL (beginW (thLoop s 0 0 [])) = progL W := by rw [progL, progL, hpg]
  rw [hpl] at hF
  have hVw := fun V w' hp => View_any V W IW.good w' (vw w).heap.size hp
  have okW := msOf_ok IW.good
  clear hpl I0 h hW hpg
  generalize flagsLoop W.set 0 ⟨#[]⟩ = fl at *
  generalize msOf W = sW at *
  generalize progL W = LW at *
  go_enter Tryd.func24, Tryd.ntmps24
  go_wp2_with (first
    | (go_at_call 26; refine hF.mono ?_; rintro e w1 ⟨V, rfl, hb, hP⟩; obtain ⟨gg, cc, hVe, _⟩ := id hP; subst hVe; have hst := storeS_run (s := sW) (heap_alloc2_new w1 (.cells #[.slice (some ⟨gg, 0, none⟩) LW.length cc] 60) (.cells zeroS 79)) rfl okW; obtain ⟨kX, hlX, hPX, hbX⟩ := res_in (w := vw w) hb hP okW)
    | (go_at_call 39; refine (hVw _ _ hPX).mono ?_; rintro e w2 ⟨g, cap, rfl, hb2, ho2⟩; have hbY := hbX.trans (hb2.mono hbX.size); have b4 := (hbY.block w.heap.size (by simp)).trans (heap_alloc_new w _); have q0 : w2.cell? ⟨w.heap.size, 0, none⟩ = some (.slice none 0 0) := cellB b4 rfl; have q1 : w2.cell? ⟨w.heap.size, 1, none⟩ = some (.string ⟨#[]⟩) := cellB b4 rfl; have z0 := frozen_of_row _ _ 0 _ _ b4; have z1 := frozen_of_row _ _ 1 _ _ b4))
  have hBw : Below w.heap.size w w2 := ((Below.refl w.heap.size w).alloc (Nat.le_refl _) _).trans (hbY.mono (by simp))
  have hszX := hbX.size
  have hvs : (vw w).heap.size = w.heap.size + 1 := by simp
  have ho3 : w2.ownsRow (w.heap.size + 1) 70 4 (.slice (some ⟨g, 0, none⟩) W.prog.length cap) W.prog.length ((thsOf W W.prog.length).flatMap thCells) := ownsRow_mono ho2 (by omega)
  refine bodyPost_ret (v := .tuple #[.agg #[.slice (some ⟨g, 0, none⟩) W.prog.length cap, .string fl], .int .i64 0]) (by simp [results, Tryd.results24, go_sem, q0, q1]) rfl ⟨g, cap, rfl, ?_, ?_⟩
  · exact (hBw.setCell (p := ⟨w.heap.size, 0, none⟩) (Nat.le_refl _) _).setCell (p := ⟨w.heap.size, 1, none⟩) (Nat.le_refl _) _
  · exact ownsRow_setCell_below (ownsRow_setCell_below ho3 (a := ⟨w.heap.size, 0, none⟩) (by simp) _) (a := ⟨w.heap.size, 1, none⟩) (by simp) _
end Go.Proofs.YtdfndcbakcmgiabDoor
namespace Go.Proofs.YtdfndcbakcmgiabDoor
open Go.RowKit

theorem thCells_get (l : List Th) (j : Nat) (x : Th) (h : l[j]? = some x) :
    (l.flatMap thCells)[j * 4]? = some (.int .i64 x.state) ∧ (l.flatMap thCells)[j * 4 + 1]? = some (.int .i64 x.place) ∧ (l.flatMap thCells)[j * 4 + 2]? = some (.string x.holds) ∧ (l.flatMap thCells)[j * 4 + 3]? = some (.int .i64 x.waits) := by
  induction l generalizing j with
  | nil => simp at h
  | cons a l ih =>
    cases j with
    | zero => simp at h; subst h; simp [thCells]
    | succ j =>
      have := ih j (by simpa using h)
      have e : (j + 1) * 4 = j * 4 + 4 := by omega
      rw [e]
      simpa [thCells] using this

/-- What is read of a list of threads. -/
def ThsIn (w : World) (a : Option Addr) (l : List Th) : Prop := ∀ j x, l[j]? = some x → ∃ g, a = some ⟨g, 0, none⟩ ∧ w.cell? ⟨g, j * 4, none⟩ = some (.int .i64 x.state) ∧ w.cell? ⟨g, j * 4 + 1, none⟩ = some (.int .i64 x.place) ∧ w.cell? ⟨g, j * 4 + 2, none⟩ = some (.string x.holds) ∧ w.cell? ⟨g, j * 4 + 3, none⟩ = some (.int .i64 x.waits)
theorem ThsIn.below {w w' : World} {a : Option Addr} {l : List Th} (h : ThsIn w a l) (hb : Below w.heap.size w w') : ThsIn w' a l := fun j x hx => by
  obtain ⟨g, e, c0, c1, c2, c3⟩ := h j x hx
  exact ⟨g, e, cell_later hb c0, cell_later hb c1, cell_later hb c2, cell_later hb c3⟩
theorem ThsIn.nil (w : World) (a : Option Addr) : ThsIn w a [] := fun j x h => by simp at h
theorem thsIn_of {w : World} {B g cap : Nat} {l : List Th} (h : w.ownsRow B 70 4 (.slice (some ⟨g, 0, none⟩) l.length cap) l.length (l.flatMap thCells)) : ThsIn w (some ⟨g, 0, none⟩) l := fun j x hx => by
  have hj : j < l.length := (List.getElem?_eq_some_iff.1 hx).1
  obtain ⟨c0, c1, c2, c3⟩ := thCells_get l j x hx
  exact ⟨g, rfl, by rw [h.cellAt _ (by omega)]; exact c0, by rw [h.cellAt _ (by omega)]; exact c1, by rw [h.cellAt _ (by omega)]; exact c2, by rw [h.cellAt _ (by omega)]; exact c3⟩

end Go.Proofs.YtdfndcbakcmgiabDoor
namespace Go.Proofs.YtdfndcbakcmgiabDoor
open Go.ChangeShapes Go.WideShapes Go.ChangeAt Go.RowKit
open Go.ChangeMaps (open_string shut_string)

/-- What both Replays answer: a list of threads, the flags, the error; an error comes with nil. -/
def ReplayOut (w w' : World) (e : Ending) (l : List Th) (fl : ByteArray) (err : Int) : Prop :=
  ∃ a c, e = .returned (.tuple #[.agg #[.slice a l.length c, .string fl], .int .i64 err]) ∧ Below w.heap.size w w' ∧ ThsIn w' a l ∧ (err ≠ 0 → a = none ∧ c = 0 ∧ l = [])
end Go.Proofs.YtdfndcbakcmgiabDoor
