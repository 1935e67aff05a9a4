import Derived.Test.YtfdbnilopfnifaaE18
import Derived.Test.YtfdbnilopfnifaaE15
import Derived.Test.YtfdbnilopfnifaaT8
import Derived.Test.YtfdbnilopfnifaaT25
namespace Go.Proofs.Ytfdbnilopfnifaa
open Go.RowKit
attribute [local go_sem ↓] loadS_fold storeS_fold zeroS_fold

abbrev vw (w : World) : World := w.alloc (.cells #[.slice none 0 0, .string ⟨#[]⟩] 32)
def badV (a : Int) : Value := .tuple #[.agg #[.slice none 0 0, .string ⟨#[]⟩], .int .i64 a]

set_option maxRecDepth 100000 in
set_option maxHeartbeats 2000000 in
theorem replay_bad (s sch : ByteArray) (w : World) (a : Int) (h : a ≠ 0) (hf : ∀ w, Calls Try.prog 53 #[.string s, .string sch] w fun e w' => e = .returned (noneV a) ∧ Below w.heap.size w w') :
    Calls Try.prog 19 #[.string s, .string sch] w fun e w' => e = .returned (badV a) ∧ Below w.heap.size w w' := by
  have ha : (a != 0) = true := by simpa using h
  have hF := hf (vw w)
  have hz : zeroM.cells = zeroS := zero_firstK
  rw [noneV, hz] at hF
  clear hf
  go_enter Try.func19, Try.ntmps19
  go_upto_region 1 with fail
  go_cut [6, 7, 8] (fun x y z wc => z = .int .i64 a ∧ wc.heap[w.heap.size]? = some (.cells #[.slice none 0 0, .string ⟨#[]⟩] 32 (0, 0)) ∧ Below w.heap.size w wc)
  case first =>
    go_wp2_with (first | (go_at_call 53; refine hF.mono ?_; rintro e w1 ⟨rfl, hb⟩; have hst := storeS_run (s := zeroM) (heap_alloc2_new w1 (.cells #[.slice none 0 0] 72) (.cells zeroS 95)) rfl (firstK_ok _ _ (by omega)); rw [hz] at hst))
    go_meet
    case rel =>
      have hX : Below w1.heap.size w1 (((w1.alloc (.cells #[.slice none 0 0] 72)).alloc (.cells zeroS 95)).setRow (w1.heap.size + 1) zeroS) := Below.setRow (two_new (Below.refl _ _)).2.2.1 (by omega) _
      have hb' := hb.trans (hX.mono hb.size)
      refine ⟨rfl, (hb'.block w.heap.size (by simp)).trans (heap_alloc_new _ _), ((Below.refl w.heap.size w).alloc (Nat.le_refl _) _).trans (hb'.mono (by simp))⟩
  case rest =>
    obtain ⟨rfl, b4, hB⟩ := hcut
    have q0 : wc.cell? ⟨w.heap.size, 0, none⟩ = some (.slice none 0 0) := cellB b4 rfl
    have q1 : wc.cell? ⟨w.heap.size, 1, none⟩ = some (.string ⟨#[]⟩) := cellB b4 rfl
    have z0 := frozen_of_row _ _ 0 _ _ b4
    have z1 := frozen_of_row _ _ 1 _ _ b4
    clear hF
    go_wp2
    exact bodyPost_ret (v := badV a) (by simp [results, Try.results19, go_sem, badV, q0, q1]) rfl ⟨rfl, (hB.setCell (p := ⟨w.heap.size, 0, none⟩) (Nat.le_refl _) _).setCell (p := ⟨w.heap.size, 1, none⟩) (Nat.le_refl _) _⟩

set_option maxRecDepth 100000 in
set_option maxHeartbeats 2000000 in
theorem replay_ok (s sch : ByteArray) (hsch : sch.size ≤ maxLen) (w : World) (h : (ckP s).1 = 0) (W : Wd) (hW : toLoop sch (beginW (thLoop s 0 0 [])) 0 = some W) :
    Calls Try.prog 19 #[.string s, .string sch] w fun e w' => ∃ g cap, e = .returned (.tuple #[.agg #[.slice (some ⟨g, 0, none⟩) W.prog.length cap, .string (flagsLoop W.set 0 ⟨#[]⟩)], .int .i64 0]) ∧ Below w.heap.size w w' ∧
      w'.ownsRow (w.heap.size + 1) 64 4 (.slice (some ⟨g, 0, none⟩) W.prog.length cap) W.prog.length ((thsOf W W.prog.length).flatMap thCells) := by
  have I0 := begin_inv s h
  obtain ⟨IW, hpg⟩ := toLoop_inv sch _ 0 _ W rfl I0 hW
  have hF := follow_ok s sch hsch (vw w) h W hW IW
  have hpl : progL (beginW (thLoop s 0 0 [])) = progL W := by rw [progL, progL, hpg]
  rw [hpl] at hF
  have hVw := fun V w' hp => View_any V W IW.good w' (vw w).heap.size hp
  have okW := msOf_ok IW.good
  clear hpl I0 h hW hpg
  generalize flagsLoop W.set 0 ⟨#[]⟩ = fl at *
  generalize msOf W = sW at *
  generalize progL W = LW at *
  go_enter Try.func19, Try.ntmps19
  go_wp2_with (first
    | (go_at_call 53; refine hF.mono ?_; rintro e w1 ⟨V, rfl, hb, hP⟩; obtain ⟨gg, cc, hVe, _⟩ := id hP; subst hVe; have hst := storeS_run (s := sW) (heap_alloc2_new w1 (.cells #[.slice (some ⟨gg, 0, none⟩) LW.length cc] 72) (.cells zeroS 95)) rfl okW; obtain ⟨kX, hlX, hPX, hbX⟩ := res_in (w := vw w) hb hP okW)
    | (go_at_call 55; refine (hVw _ _ hPX).mono ?_; rintro e w2 ⟨g, cap, rfl, hb2, ho2⟩; have hbY := hbX.trans (hb2.mono hbX.size); have b4 := (hbY.block w.heap.size (by simp)).trans (heap_alloc_new w _); have q0 : w2.cell? ⟨w.heap.size, 0, none⟩ = some (.slice none 0 0) := cellB b4 rfl; have q1 : w2.cell? ⟨w.heap.size, 1, none⟩ = some (.string ⟨#[]⟩) := cellB b4 rfl; have z0 := frozen_of_row _ _ 0 _ _ b4; have z1 := frozen_of_row _ _ 1 _ _ b4))
  have hBw : Below w.heap.size w w2 := ((Below.refl w.heap.size w).alloc (Nat.le_refl _) _).trans (hbY.mono (by simp))
  have hszX := hbX.size
  have hvs : (vw w).heap.size = w.heap.size + 1 := by simp
  have ho3 : w2.ownsRow (w.heap.size + 1) 64 4 (.slice (some ⟨g, 0, none⟩) W.prog.length cap) W.prog.length ((thsOf W W.prog.length).flatMap thCells) := ownsRow_mono ho2 (by omega)
  refine bodyPost_ret (v := .tuple #[.agg #[.slice (some ⟨g, 0, none⟩) W.prog.length cap, .string fl], .int .i64 0]) (by simp [results, Try.results19, go_sem, q0, q1]) rfl ⟨g, cap, rfl, ?_, ?_⟩
  · exact (hBw.setCell (p := ⟨w.heap.size, 0, none⟩) (Nat.le_refl _) _).setCell (p := ⟨w.heap.size, 1, none⟩) (Nat.le_refl _) _
  · exact ownsRow_setCell_below (ownsRow_setCell_below ho3 (a := ⟨w.heap.size, 0, none⟩) (by simp) _) (a := ⟨w.heap.size, 1, none⟩) (by simp) _
end Go.Proofs.Ytfdbnilopfnifaa
namespace Go.Proofs.Ytfdbnilopfnifaa
open Go.RowKit

def lit0 : ByteArray := ⟨#[62, 49, 59, 97, 98]⟩
theorem lit0_ck : (ckP lit0).1 = 0 := by decide +kernel
theorem lit0_run : resumeL ⟨#[]⟩ 61 (beginW (thLoop lit0 0 0 [])) [] = ([0, 1, 1], 1) := by decide +kernel
theorem lit0_to : toLoop ⟨#[]⟩ (beginW (thLoop lit0 0 0 [])) 0 = some (beginW (thLoop lit0 0 0 [])) := by rw [toLoop, if_neg (by decide)]
theorem lit0_V : resumeV lit0 ⟨#[]⟩ ⟨#[]⟩ = .tuple #[.string ⟨#[48, 49, 49]⟩, .int .i64 1, .int .i64 0] := by
  rw [resumeV, if_neg (by rw [lit0_ck]; decide), lit0_to]
  simp only [lit0_run]
  rfl

theorem toLoop_go (sch : ByteArray) : ∀ (ms : List Nat) (k : Nat) (W : Wd), W.Inv → k + ms.length ≤ sch.size → (∀ i (h : i < ms.length), byteI sch (k + i) = 48 + (ms[i] : Nat)) → toLoop sch W k = (goL W ms).bind fun V => toLoop sch V (k + ms.length)
  | [], k, W, _, _, _ => by simp [goL]
  | t :: ms, k, W, I, hl, hb => by
    have hb0 := hb 0 (by simp)
    simp only [Nat.add_zero, List.getElem_cons_zero] at hb0
    have h5 := I.good.n5
    have hlen : k < sch.size := by simp at hl; omega
    rw [toLoop, if_pos hlen, hb0]
    have e : ((48 : Int) + (t : Int) - 48).toNat = t := by omega
    rw [e, goL]
    by_cases hc : t < W.prog.length ∧ stateOf W t = 1
    · rw [if_pos hc, if_pos ⟨by omega, by omega, by omega, hc.2⟩]
      rw [toLoop_go sch ms (k + 1) _ (moveT_inv I hc.1 hc.2) (by simp at hl; omega) (fun i hi => by
        have := hb (i + 1) (by simpa using hi)
        rw [show k + 1 + i = k + (i + 1) by omega]
        simpa using this)]
      congr 1
      funext V
      congr 1
      simp; omega
    · rw [if_neg hc, if_neg (fun h => hc ⟨by omega, h.2.2.2⟩)]
      rfl
theorem byteI_dig (l : List Nat) (hl : ∀ t ∈ l, t ≤ 100) (k : Nat) (h : k < l.length) : byteI (digS l) k = 48 + (l[k] : Nat) := by
  have h' : k < (digS l).size := by rw [digS_size]; exact h
  rw [← byteI_in h', digS_get l k h' hl]
theorem toLoop_dig (W : Wd) (I : W.Inv) (l : List Nat) (hl : ∀ t ∈ l, t ≤ 100) : toLoop (digS l) W 0 = goL W l := by
  rw [toLoop_go (digS l) l 0 W I (by rw [digS_size]; omega) (fun i hi => by rw [Nat.zero_add]; exact byteI_dig l hl i hi)]
  cases goL W l with
  | none => rfl
  | some V => simp only [Option.bind_some]; rw [toLoop, if_neg (by rw [digS_size]; omega)]
/-- A sign that is no digit behind a schedule. -/
theorem toLoop_slash (W : Wd) (I : W.Inv) (l : List Nat) (hl : ∀ t ∈ l, t ≤ 100) (sch : ByteArray) (hs : sch = digS l ++ ⟨#[47]⟩) : toLoop sch W 0 = none := by
  have hsz : sch.size = l.length + 1 := by rw [hs, ByteArray.size_append, digS_size]; rfl
  have hget : ∀ i (h : i < l.length), byteI sch (0 + i) = 48 + (l[i] : Nat) := fun i hi => by
    rw [← byteI_dig l hl i hi, Nat.zero_add]
    have h1 : i < (digS l).size := by rw [digS_size]; exact hi
    have h2 : i < sch.size := by omega
    rw [← byteI_in h1, ← byteI_in h2]
    subst hs
    rw [ByteArray.getElem_append_left h1]
  have hlast : byteI sch l.length = 47 := by
    have h2 : l.length < sch.size := by omega
    rw [← byteI_in h2]
    subst hs
    rw [ByteArray.getElem_append_right (by rw [digS_size]; exact Nat.le_refl _)]
    simp only [digS_size, Nat.sub_self]
    rfl
  rw [toLoop_go sch l 0 W I (by omega) hget]
  cases goL W l with
  | none => rfl
  | some V =>
    simp only [Option.bind_some, Nat.zero_add]
    rw [toLoop, if_pos (by omega), hlast, if_neg (by omega)]

theorem mayLoop_al (W : Wd) : ∀ (n t : Nat) (l : List Nat) (al : Bool), W.prog.length - t = n → ((mayLoop W t l al).2 = true ↔ al = true ∨ ∃ u, t ≤ u ∧ u < W.prog.length ∧ (stateOf W u = 2 ∨ stateOf W u = 3)) := by
  intro n
  induction n with
  | zero =>
    intro t l al hn
    rw [mayLoop, if_neg (by omega)]
    constructor
    · exact fun h => .inl h
    · rintro (h | ⟨u, h1, h2, _⟩)
      · exact h
      · omega
  | succ n ih =>
    intro t l al hn
    rw [mayLoop, if_pos (by omega), ih (t + 1) _ _ (by omega)]
    constructor
    · rintro (h | ⟨u, h1, h2, h3⟩)
      · simp only [Bool.or_eq_true, decide_eq_true_eq] at h
        rcases h with (h | h) | h
        · exact .inl h
        · exact .inr ⟨t, Nat.le_refl _, by omega, .inl h⟩
        · exact .inr ⟨t, Nat.le_refl _, by omega, .inr h⟩
      · exact .inr ⟨u, by omega, h2, h3⟩
    · rintro (h | ⟨u, h1, h2, h3⟩)
      · left; simp [h]
      · by_cases hu : u = t
        · subst hu; left; rcases h3 with h3 | h3 <;> simp [h3]
        · exact .inr ⟨u, by omega, h2, h3⟩
theorem mayW_none {W : Wd} (G : W.Good) (h : mayW W = []) : ∀ u, u < W.prog.length → stateOf W u ≠ 1 ∧ stateOf W u ≠ 5 := by
  have hm : mayW W = moversL (progL W) (msOf W) W.prog.length := movers_sim G _ 0 false rfl (Nat.zero_le _)
  rw [hm] at h
  exact movers_none G h

/-- What stands where a run has ended. -/
inductive Ends (W : Wd) : Int → Prop
  | done : (∀ u, u < W.prog.length → stateOf W u = 0 ∨ stateOf W u = 4) → Ends W 1
  | stuck : (∀ u, u < W.prog.length → stateOf W u ≠ 1 ∧ stateOf W u ≠ 5) → (∃ u, u < W.prog.length ∧ (stateOf W u = 2 ∨ stateOf W u = 3)) → Ends W 2
  | fault : (∃ u, u < W.prog.length ∧ stateOf W u = 5) → Ends W 3
theorem RunsTo.ends {p : ByteArray} {W WE : Wd} {j : Nat} {ms : List Nat} {h : Int} (r : RunsTo p W j ms h WE) (I : W.Inv) : Ends WE h := by
  induction r with
  | @stop W j hm =>
    have hn := mayW_none I.good hm
    have ha := mayLoop_al W _ 0 [] false rfl
    split
    · rename_i hal
      rcases ha.1 hal with h | ⟨u, _, h2, h3⟩
      · cases h
      · exact .stuck hn ⟨u, h2, h3⟩
    · rename_i hal
      refine .done fun u hu => ?_
      have h1 := hn u hu
      have h2 := stateOf_range W u
      have h3 : ¬ (stateOf W u = 2 ∨ stateOf W u = 3) := fun h => hal (ha.2 (.inr ⟨u, Nat.zero_le _, hu, h⟩))
      omega
  | fault hm hs => exact .fault ⟨_, (mayW_mem (pickW_mem p _ hm)).1, hs⟩
  | move hm hs ht _ ih => exact ih (moveT_inv I ht hs)
end Go.Proofs.Ytfdbnilopfnifaa
