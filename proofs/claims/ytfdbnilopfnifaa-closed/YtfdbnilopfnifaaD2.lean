import Derived.Test.YtfdbnilopfnifaaC3
import Derived.Deep.RegionHeld3
import Derived.Deep.QuietTactic
import Derived.BigQuiet
namespace Go.Proofs.Ytfdbnilopfnifaa
open Go.RowKit

theorem conv1 (w : World) (n : Int) : (convert 89 9 (.slice (some ⟨w.heap.size, 0, none⟩) 1 1)).run Try.prog (w.alloc (.cells #[.int .u8 n] 5)) = .ok (.string ⟨#[UInt8.ofNat n.toNat]⟩) (w.alloc (.cells #[.int .u8 n] 5)) := by
  refine run_convert_bytes_arg (P := Try.prog) (w.alloc (.cells #[.int .u8 n] 5)) 89 5 Try.underlying89 Try.underlying5 w.heap.size 0 1 1 [n] rfl ?_ 9 Try.underlying9
  intro i hi
  have hi0 : i = 0 := by omega
  subst hi0
  rw [cell_of_row _ _ _ _ _ _ (heap_alloc_new w _)]
  rfl
set_option maxHeartbeats 400000 in
theorem name_any (t : Nat) (w : World) (ht : (t : Int) ≤ 100) :
    Calls Try.prog 51 #[.int .i64 t] w fun e w' => e = .returned (.string (nameS t)) ∧ Below w.heap.size w w' := by
  have hc := conv1 w (48 + t)
  have hn : (⟨#[UInt8.ofNat ((48 : Int) + t).toNat]⟩ : ByteArray) = nameS t := by
    rw [nameS]; congr 3
  rw [hn] at hc
  clear hn
  go_enter Try.func51, Try.ntmps51
  go_wp2
  go_ret
  exact ⟨rfl, (Below.refl _ _).alloc (Nat.le_refl _) _⟩

theorem below_drewN (w : World) (n : Nat) : Below w.heap.size w (w.drewN n) := by
  induction n with
  | zero => exact Below.refl _ _
  | succ n ih => exact ih.drew

theorem below_of_drewN {w w1 : World} {n : Nat} (hb : Below (w.drewN n).heap.size (w.drewN n) w1) : Below w.heap.size w w1 := ⟨hb.os, hb.tape, hb.output, hb.size, hb.block⟩
theorem beqI (n m : Nat) : ((n : Int) == (m : Int)) = decide (n = m) := by
  by_cases h : n = m <;> simp [h]
  omega
set_option maxHeartbeats 400000 in
theorem over_any (p t : Nat) (W : Wd) (w : World) {gP cP gB cB gL cL gH cH gS cS : Nat} {aG : Option Addr} {cG : Nat} (h : WIn w p W gP cP gB cB gL cL gH cH gS cS aG cG) (b : Bool) (n : Nat) (l : List ByteArray)
    (hb : W.born[t]? = some b) (hn : W.place[t]? = some n) (hl : W.prog[t]? = some l) :
    Calls Try.prog 78 #[.pointer (some ⟨p, 0, none⟩), .int .i64 t] w fun e w' => e = .returned (.bool (b && decide (n = l.length))) ∧ Below w.heap.size w w' := by
  have f1 := h.fB
  have f2 := h.fL
  have f3 := h.fP
  have c1 := h.cB' t b hb
  have c2 := h.cL' t n hn
  obtain ⟨a, c, c3, _⟩ := h.cP' t l hl
  have g1 : t < W.born.length := (List.getElem?_eq_some_iff.1 hb).1
  have g2 : t < W.place.length := (List.getElem?_eq_some_iff.1 hn).1
  have g3 : t < W.prog.length := (List.getElem?_eq_some_iff.1 hl).1
  clear h
  cases b with
  | true =>
    go_enter Try.func78, Try.ntmps78
    go_wp2
    go_quiet (fail)
    go_wp2
    go_ret
    refine ⟨?_, below_drewN _ _⟩
    show Ending.returned (Value.bool ((n : Int) == (l.length : Int))) = _
    rw [Bool.true_and, beqI]
  | false =>
    go_enter Try.func78, Try.ntmps78
    go_wp2
    go_quiet (fail)
    go_wp2
    go_ret
    exact ⟨rfl, below_drewN _ _⟩

/-- An instruction's text, as Check lets it by, in a program of n threads. -/
def DOk (n : Nat) (d : ByteArray) : Prop :=
  d.size = wid (byteI d 0) ∧
  (byteI d 0 = 46 ∨ (97 ≤ byteI d 0 ∧ byteI d 0 ≤ 102) ∨ (65 ≤ byteI d 0 ∧ byteI d 0 ≤ 70) ∨ ((byteI d 0 = 33 ∨ byteI d 0 = 126) ∧ 117 ≤ byteI d 1 ∧ byteI d 1 ≤ 122) ∨
   (byteI d 0 = 63 ∧ 117 ≤ byteI d 1 ∧ byteI d 1 ≤ 122 ∧ 49 ≤ byteI d 2 ∧ byteI d 2 ≤ 57) ∨ ((byteI d 0 = 60 ∨ byteI d 0 = 62) ∧ 48 ≤ byteI d 1 ∧ byteI d 1 < 48 + n))
theorem DOk.size {n : Nat} {d : ByteArray} (h : DOk n d) : 1 ≤ d.size := by rw [h.1]; exact (wid_range _).1

/-- The next instruction of a thread. -/
structure At (W : Wd) (t : Nat) (n : Nat) (l : List ByteArray) (d : ByteArray) : Prop where
  born : W.born[t]? = some true
  place : W.place[t]? = some n
  prog : W.prog[t]? = some l
  txt : l[n]? = some d

/-- What a thread is at that asks for a lock which o has. -/
def lockSt (t : Nat) : Option Nat → Int
  | none => 1
  | some u => if u = t then 5 else 2

theorem hasS_none : (hasS none).toList.isEmpty = true := by rw [ByteArray.toList_eq]; rfl
theorem hasS_some (u : Nat) : (hasS (some u)).toList.isEmpty = false := by rw [ByteArray.toList_eq]; rfl
theorem nameS_list (t : Nat) : (nameS t).toList = [UInt8.ofNat (48 + t)] := by rw [ByteArray.toList_eq]; rfl
theorem ofNat_inj {a b : Nat} (ha : a ≤ 200) (hb : b ≤ 200) (h : UInt8.ofNat a = UInt8.ofNat b) : a = b := by
  have := congrArg UInt8.toNat h
  simp only [UInt8.toNat_ofNat'] at this
  omega
theorem hasS_eq (o : Option Nat) (t : Nat) (ht : t ≤ 100) (ho : ∀ u, o = some u → u ≤ 100) : ((hasS o).toList == (nameS t).toList) = decide (o = some t) := by
  cases o with
  | none => rw [nameS_list, ByteArray.toList_eq]; rfl
  | some u =>
    have hu := ho u rfl
    rw [hasS, nameS_list, nameS_list]
    by_cases e : u = t
    · subst e; simp
    · have : ¬ (UInt8.ofNat (48 + u) = UInt8.ofNat (48 + t)) := fun h => by have := ofNat_inj (by omega) (by omega) h; omega
      have h2 : (UInt8.ofNat (48 + u) == UInt8.ofNat (48 + t)) = false := beq_false_of_ne this
      rw [decide_eq_false (fun h => e (Option.some.inj h))]
      show (UInt8.ofNat (48 + u) == UInt8.ofNat (48 + t) && true) = false
      rw [h2]; rfl

/-- The facts of a thread's next instruction in memory. -/
structure AtIn (w : World) (p t : Nat) (W : Wd) (n : Nat) (l : List ByteArray) (d : ByteArray) (gP cP gB cB gL cL gH cH gS cS g c : Nat) : Prop where
  f1 : w.cell? ⟨p, 1, none⟩ = some (.slice (some ⟨gB, 0, none⟩) W.born.length cB)
  f2 : w.cell? ⟨p, 2, none⟩ = some (.slice (some ⟨gL, 0, none⟩) W.place.length cL)
  f3 : w.cell? ⟨p, 0, none⟩ = some (.slice (some ⟨gP, 0, none⟩) W.prog.length cP)
  f4 : w.cell? ⟨p, 3, none⟩ = some (.slice (some ⟨gH, 0, none⟩) W.has.length cH)
  f6 : w.cell? ⟨p, 4, none⟩ = some (.slice (some ⟨gS, 0, none⟩) W.set.length cS)
  c1 : w.cell? ⟨gB, t, none⟩ = some (.bool true)
  c2 : w.cell? ⟨gL, t, none⟩ = some (.int .i64 (n : Int))
  c3 : w.cell? ⟨gP, t, none⟩ = some (.slice (some ⟨g, 0, none⟩) l.length c)
  c5 : w.cell? ⟨g, n, none⟩ = some (.string d)
  g1 : t < W.born.length
  g2 : t < W.place.length
  g3 : t < W.prog.length
  hln : n < l.length
  hne : ((n : Int) == (l.length : Int)) = false
theorem At.into {w : World} {p t : Nat} {W : Wd} {gP cP gB cB gL cL gH cH gS cS : Nat} {aG : Option Addr} {cG : Nat} (h : WIn w p W gP cP gB cB gL cL gH cH gS cS aG cG) {n : Nat} {l : List ByteArray} {d : ByteArray} (A : At W t n l d) :
    ∃ g c, AtIn w p t W n l d gP cP gB cB gL cL gH cH gS cS g c := by
  obtain ⟨a, c, c3, h3⟩ := h.cP' t l A.prog
  have hln : n < l.length := (List.getElem?_eq_some_iff.1 A.txt).1
  obtain ⟨g, rfl, h5⟩ := h3 (by intro e; rw [e] at hln; simp at hln)
  exact ⟨g, c, h.fB, h.fL, h.fP, h.fH, h.fS, h.cB' t _ A.born, h.cL' t n A.place, c3, h5 n d A.txt, (List.getElem?_eq_some_iff.1 A.born).1, (List.getElem?_eq_some_iff.1 A.place).1, (List.getElem?_eq_some_iff.1 A.prog).1, hln, by simp; omega⟩

set_option maxHeartbeats 1000000 in
theorem state_lock (p t : Nat) (W : Wd) (w : World) {gP cP gB cB gL cL gH cH gS cS : Nat} {aG : Option Addr} {cG : Nat} (h : WIn w p W gP cP gB cB gL cL gH cH gS cS aG cG) (ok : W.Ok) {n : Nat} {l : List ByteArray} {d : ByteArray}
    (A : At W t n l d) (ht : (t : Int) ≤ 100) (k : Nat) (hk6 : k < 6) (hd : 0 < d.size) (hk : byteI d 0 = 97 + k) (o : Option Nat) (ho : W.has[k]? = some o) (hou : ∀ u, o = some u → u ≤ 100) :
    Calls Try.prog 50 #[.pointer (some ⟨p, 0, none⟩), .int .i64 t] w fun e w' => e = .returned (.int .i64 (lockSt t o)) ∧ Below w.heap.size w w' := by
  obtain ⟨g, c, f1, f2, f3, f4, _, c1, c2, c3, c5, g1, g2, g3, hln, hne⟩ := At.into h A
  have c4 := h.cH' k o ho
  have g4 : k < W.has.length := by rw [ok.nh]; exact hk6
  have hb0 : (d[0].toNat : Int) = 97 + k := by rw [byteI_in hd]; exact hk
  have e1 : atI ⟨#[97, 98, 99, 100, 101, 102]⟩ (97 + k) = k := by rw [atI_lock (by omega) (by omega), atR_yes (by omega) (by omega)]; omega
  have e2 := hasS_eq o t (by omega) hou
  clear h A hk ho hou
  cases o with
  | none =>
    have e3 := hasS_none
    go_enter Try.func50, Try.ntmps50
    go_wp2
    go_quiet (fail)
    go_wp2
    go_quiet (fail)
    go_wp2_with (first
      | (go_at_call 51; refine (name_any t _ ht).mono ?_; rintro e w1 ⟨rfl, hb1⟩; have hB1 := below_of_drewN hb1; clear hb1; have f5 := cell_later hB1 f4; have c6 := cell_later hB1 c4)
      | (go_at_call 77; refine (at_n _ _ _ (by omega) (by omega) (by decide)).mono ?_; rintro e w2 ⟨rfl, rfl⟩))
    go_ret
    exact ⟨rfl, hB1⟩
  | some u =>
    have e3 := hasS_some u
    by_cases hu : u = t
    · rw [decide_eq_true (by rw [hu])] at e2
      have hl : lockSt t (some u) = 5 := by rw [lockSt, if_pos hu]
      rw [hl]
      clear hl hu
      go_enter Try.func50, Try.ntmps50
      go_wp2
      go_quiet (fail)
      go_wp2
      go_quiet (fail)
      go_wp2_with (first
        | (go_at_call 51; refine (name_any t _ ht).mono ?_; rintro e w1 ⟨rfl, hb1⟩; have hB1 := below_of_drewN hb1; clear hb1; have f5 := cell_later hB1 f4; have c6 := cell_later hB1 c4)
        | (go_at_call 77; refine (at_n _ _ _ (by omega) (by omega) (by decide)).mono ?_; rintro e w2 ⟨rfl, rfl⟩))
      go_ret
      exact ⟨rfl, hB1⟩
    · rw [decide_eq_false (fun e => hu (by simpa using e))] at e2
      have hl : lockSt t (some u) = 2 := by rw [lockSt, if_neg hu]
      rw [hl]
      clear hl hu
      go_enter Try.func50, Try.ntmps50
      go_wp2
      go_quiet (fail)
      go_wp2
      go_quiet (fail)
      go_wp2_with (first
        | (go_at_call 51; refine (name_any t _ ht).mono ?_; rintro e w1 ⟨rfl, hb1⟩; have hB1 := below_of_drewN hb1; clear hb1; have f5 := cell_later hB1 f4; have c6 := cell_later hB1 c4)
        | (go_at_call 77; refine (at_n _ _ _ (by omega) (by omega) (by decide)).mono ?_; rintro e w2 ⟨rfl, rfl⟩))
      go_ret
      exact ⟨rfl, hB1⟩

set_option maxHeartbeats 400000 in
theorem state_unborn (p t : Nat) (W : Wd) (w : World) {gP cP gB cB gL cL gH cH gS cS : Nat} {aG : Option Addr} {cG : Nat} (h : WIn w p W gP cP gB cB gL cL gH cH gS cS aG cG) (hb : W.born[t]? = some false) :
    Calls Try.prog 50 #[.pointer (some ⟨p, 0, none⟩), .int .i64 t] w fun e w' => e = .returned (.int .i64 0) ∧ Below w.heap.size w w' := by
  have f1 := h.fB
  have c1 := h.cB' t _ hb
  have g1 : t < W.born.length := (List.getElem?_eq_some_iff.1 hb).1
  go_enter Try.func50, Try.ntmps50
  go_wp2
  go_ret
  exact ⟨rfl, Below.refl _ _⟩

set_option maxHeartbeats 400000 in
theorem state_ended (p t : Nat) (W : Wd) (w : World) {gP cP gB cB gL cL gH cH gS cS : Nat} {aG : Option Addr} {cG : Nat} (h : WIn w p W gP cP gB cB gL cL gH cH gS cS aG cG) (n : Nat) (l : List ByteArray) (hb : W.born[t]? = some true) (hn : W.place[t]? = some n) (hl : W.prog[t]? = some l) (hnl : n = l.length) :
    Calls Try.prog 50 #[.pointer (some ⟨p, 0, none⟩), .int .i64 t] w fun e w' => e = .returned (.int .i64 4) ∧ Below w.heap.size w w' := by
  have f1 := h.fB
  have f2 := h.fL
  have f3 := h.fP
  have c1 := h.cB' t _ hb
  have c2 := h.cL' t n hn
  obtain ⟨a, c, c3, _⟩ := h.cP' t l hl
  have g1 : t < W.born.length := (List.getElem?_eq_some_iff.1 hb).1
  have g2 : t < W.place.length := (List.getElem?_eq_some_iff.1 hn).1
  have g3 : t < W.prog.length := (List.getElem?_eq_some_iff.1 hl).1
  have hne : ((n : Int) == (l.length : Int)) = true := by simp; omega
  clear hnl
  go_enter Try.func50, Try.ntmps50
  go_wp2
  go_quiet (fail)
  go_wp2
  go_ret
  exact ⟨rfl, below_drewN _ _⟩

set_option maxHeartbeats 1000000 in
theorem state_give (p t : Nat) (W : Wd) (w : World) {gP cP gB cB gL cL gH cH gS cS : Nat} {aG : Option Addr} {cG : Nat} (h : WIn w p W gP cP gB cB gL cL gH cH gS cS aG cG) (ok : W.Ok) {n : Nat} {l : List ByteArray} {d : ByteArray}
    (A : At W t n l d) (ht : (t : Int) ≤ 100) (hd : 0 < d.size) (k : Nat) (hk6 : k < 6) (hk : byteI d 0 = 65 + k) (o : Option Nat) (ho : W.has[k]? = some o) (hou : ∀ u, o = some u → u ≤ 100) (v : Int) (hv : v = if o = some t then 1 else 5) :
    Calls Try.prog 50 #[.pointer (some ⟨p, 0, none⟩), .int .i64 t] w fun e w' => e = .returned (.int .i64 v) ∧ Below w.heap.size w w' := by
  obtain ⟨g, c, f1, f2, f3, f4, _, c1, c2, c3, c5, g1, g2, g3, hln, hne⟩ := At.into h A
  have c4 := h.cH' k o ho
  have g4 : k < W.has.length := by rw [ok.nh]; exact hk6
  have hb0 : (d[0].toNat : Int) = 65 + k := by rw [byteI_in hd]; exact hk
  have e1 : atI ⟨#[97, 98, 99, 100, 101, 102]⟩ (65 + k) = -1 := by rw [atI_lock (by omega) (by omega), atR_no (by omega)]
  have e2 : atI ⟨#[65, 66, 67, 68, 69, 70]⟩ (65 + k) = k := by rw [atI_give (by omega) (by omega), atR_yes (by omega) (by omega)]; omega
  have e3 := hasS_eq o t (by omega) hou
  have b62 : ((65 : Int) + k == 62) = false := by simp; omega
  have b60 : ((65 : Int) + k == 60) = false := by simp; omega
  clear h A hk ho hou
  by_cases hu : o = some t
  · rw [if_pos hu] at hv
    rw [decide_eq_true hu] at e3
    subst hv
    clear hu
    go_enter Try.func50, Try.ntmps50
    go_wp2
    go_quiet (fail)
    go_wp2
    go_quiet (fail)
    go_wp2_with (first
      | (go_at_call 51; refine (name_any t _ ht).mono ?_; rintro e w1 ⟨rfl, hb1⟩; have hB1 := below_of_drewN hb1; clear hb1; have f5 := cell_later hB1 f4; have f6 := cell_later hB1 f1; have c6 := cell_later hB1 c4)
      | (go_at_call 77; refine (at_n _ _ _ (by omega) (by omega) (by decide)).mono ?_; rintro e w2 ⟨rfl, rfl⟩))
    go_quiet (fail)
    go_wp2
    go_ret
    exact ⟨rfl, hB1.trans ((below_drewN _ _).mono hB1.size)⟩
  · rw [if_neg hu] at hv
    rw [decide_eq_false hu] at e3
    subst hv
    clear hu
    go_enter Try.func50, Try.ntmps50
    go_wp2
    go_quiet (fail)
    go_wp2
    go_quiet (fail)
    go_wp2_with (first
      | (go_at_call 51; refine (name_any t _ ht).mono ?_; rintro e w1 ⟨rfl, hb1⟩; have hB1 := below_of_drewN hb1; clear hb1; have f5 := cell_later hB1 f4; have c6 := cell_later hB1 c4)
      | (go_at_call 77; refine (at_n _ _ _ (by omega) (by omega) (by decide)).mono ?_; rintro e w2 ⟨rfl, rfl⟩))
    go_ret
    exact ⟨rfl, hB1⟩

/-- Every other instruction: nothing bars it. -/
theorem state_plain (p t : Nat) (W : Wd) (w : World) {gP cP gB cB gL cL gH cH gS cS : Nat} {aG : Option Addr} {cG : Nat} (h : WIn w p W gP cP gB cB gL cL gH cH gS cS aG cG) {n : Nat} {l : List ByteArray} {d : ByteArray}
    (A : At W t n l d) (ht : (t : Int) ≤ 100) (hd : 0 < d.size) (h0 : 0 ≤ byteI d 0) (h255 : byteI d 0 ≤ 255) (k1 : byteI d 0 < 97 ∨ 103 ≤ byteI d 0) (k2 : byteI d 0 < 65 ∨ 71 ≤ byteI d 0) (k3 : byteI d 0 ≠ 62) (k4 : byteI d 0 ≠ 60) :
    Calls Try.prog 50 #[.pointer (some ⟨p, 0, none⟩), .int .i64 t] w fun e w' => e = .returned (.int .i64 1) ∧ Below w.heap.size w w' := by
  obtain ⟨g, c, f1, f2, f3, f4, _, c1, c2, c3, c5, g1, g2, g3, hln, hne⟩ := At.into h A
  have e1 : atI ⟨#[97, 98, 99, 100, 101, 102]⟩ (byteI d 0) = -1 := (atI_lock (by omega) (by omega)).trans (atR_no (by omega))
  have e2 : atI ⟨#[65, 66, 67, 68, 69, 70]⟩ (byteI d 0) = -1 := (atI_give (by omega) (by omega)).trans (atR_no (by omega))
  have hb0 := byteI_in hd
  have b62 : (byteI d 0 == 62) = false := by simpa using k3
  have b60 : (byteI d 0 == 60) = false := by simpa using k4
  clear h A
  go_enter Try.func50, Try.ntmps50
  go_wp2
  go_quiet (fail)
  go_wp2
  go_quiet (fail)
  go_wp2_with (first
    | (go_at_call 51; refine (name_any t _ ht).mono ?_; rintro e w1 ⟨rfl, hb1⟩; have hB1 := below_of_drewN hb1; clear hb1)
    | (go_at_call 77; refine (at_n _ _ _ (by omega) (by omega) (by decide)).mono ?_; rintro e w2 ⟨rfl, rfl⟩))
  go_quiet (fail)
  go_wp2
  go_ret
  exact ⟨rfl, hB1.trans ((below_drewN _ _).mono hB1.size)⟩

set_option maxHeartbeats 1000000 in
theorem state_start (p t : Nat) (W : Wd) (w : World) {gP cP gB cB gL cL gH cH gS cS : Nat} {aG : Option Addr} {cG : Nat} (h : WIn w p W gP cP gB cB gL cL gH cH gS cS aG cG) {n : Nat} {l : List ByteArray} {d : ByteArray}
    (A : At W t n l d) (ht : (t : Int) ≤ 100) (hd : 0 < d.size) (hd1 : 1 < d.size) (k3 : byteI d 0 = 62) (j : Nat) (hj : byteI d 1 = 48 + j) (hj9 : j ≤ 9) (b : Bool) (hb : W.born[j]? = some b) (v : Int) (hv : v = if b = true then 5 else 1) :
    Calls Try.prog 50 #[.pointer (some ⟨p, 0, none⟩), .int .i64 t] w fun e w' => e = .returned (.int .i64 v) ∧ Below w.heap.size w w' := by
  obtain ⟨g, c, f1, f2, f3, f4, _, c1, c2, c3, c5, g1, g2, g3, hln, hne⟩ := At.into h A
  have e1 : atI ⟨#[97, 98, 99, 100, 101, 102]⟩ 62 = -1 := (atI_lock (by omega) (by omega)).trans (atR_no (by omega))
  have e2 : atI ⟨#[65, 66, 67, 68, 69, 70]⟩ 62 = -1 := (atI_give (by omega) (by omega)).trans (atR_no (by omega))
  have hb0 : (d[0].toNat : Int) = 62 := by rw [byteI_in hd]; exact k3
  have hb1 : (d[1].toNat : Int) = 48 + j := by rw [byteI_in hd1]; exact hj
  have cj := h.cB' j b hb
  have gj : j < W.born.length := (List.getElem?_eq_some_iff.1 hb).1
  clear h A hj k3 hb
  cases b with
  | true =>
    simp only [if_true] at hv
    subst hv
    go_enter Try.func50, Try.ntmps50
    go_wp2
    go_quiet (fail)
    go_wp2
    go_quiet (fail)
    go_wp2_with (first
      | (go_at_call 51; refine (name_any t _ ht).mono ?_; rintro e w1 ⟨rfl, hb1⟩; have hB1 := below_of_drewN hb1; clear hb1; have f7 := cell_later hB1 f1; have c7 := cell_later hB1 cj)
      | (go_at_call 77; refine (at_n _ _ _ (by omega) (by omega) (by decide)).mono ?_; rintro e w2 ⟨rfl, rfl⟩))
    go_quiet (fail)
    go_wp2
    go_ret
    exact ⟨rfl, hB1.trans ((below_drewN _ _).mono hB1.size)⟩
  | false =>
    simp only [Bool.false_eq_true, if_false] at hv
    subst hv
    go_enter Try.func50, Try.ntmps50
    go_wp2
    go_quiet (fail)
    go_wp2
    go_quiet (fail)
    go_wp2_with (first
      | (go_at_call 51; refine (name_any t _ ht).mono ?_; rintro e w1 ⟨rfl, hb1⟩; have hB1 := below_of_drewN hb1; clear hb1; have f7 := cell_later hB1 f1; have c7 := cell_later hB1 cj)
      | (go_at_call 77; refine (at_n _ _ _ (by omega) (by omega) (by decide)).mono ?_; rintro e w2 ⟨rfl, rfl⟩))
    go_quiet (fail)
    go_wp2
    go_ret
    exact ⟨rfl, hB1.trans ((below_drewN _ _).mono hB1.size)⟩

set_option maxHeartbeats 1000000 in
theorem state_join (p t : Nat) (W : Wd) (w : World) {gP cP gB cB gL cL gH cH gS cS : Nat} {aG : Option Addr} {cG : Nat} (h : WIn w p W gP cP gB cB gL cL gH cH gS cS aG cG) {n : Nat} {l : List ByteArray} {d : ByteArray}
    (A : At W t n l d) (ht : (t : Int) ≤ 100) (hd : 0 < d.size) (hd1 : 1 < d.size) (k3 : byteI d 0 = 60) (j : Nat) (hj : byteI d 1 = 48 + j) (hj9 : j ≤ 9) (b : Bool) (m : Nat) (l' : List ByteArray) (hb : W.born[j]? = some b) (hm : W.place[j]? = some m) (hl' : W.prog[j]? = some l')
    (v : Int) (hv : v = if (b && decide (m = l'.length)) = true then 1 else 3) :
    Calls Try.prog 50 #[.pointer (some ⟨p, 0, none⟩), .int .i64 t] w fun e w' => e = .returned (.int .i64 v) ∧ Below w.heap.size w w' := by
  obtain ⟨g, c, f1, f2, f3, f4, _, c1, c2, c3, c5, g1, g2, g3, hln, hne⟩ := At.into h A
  have e1 : atI ⟨#[97, 98, 99, 100, 101, 102]⟩ 60 = -1 := (atI_lock (by omega) (by omega)).trans (atR_no (by omega))
  have e2 : atI ⟨#[65, 66, 67, 68, 69, 70]⟩ 60 = -1 := (atI_give (by omega) (by omega)).trans (atR_no (by omega))
  have hb0 : (d[0].toNat : Int) = 60 := by rw [byteI_in hd]; exact k3
  have hb1 : (d[1].toNat : Int) = 48 + j := by rw [byteI_in hd1]; exact hj
  have hover : ∀ (wx : World) (i : Int), i = j → Below w.heap.size w wx → Calls Try.prog 78 #[.pointer (some ⟨p, 0, none⟩), .int .i64 i] wx fun e w' => e = .returned (.bool (b && decide (m = l'.length))) ∧ Below wx.heap.size wx w' :=
    fun wx i hi hx => by subst hi; exact over_any p j W wx (h.below hx) b m l' hb hm hl'
  generalize (b && decide (m = l'.length)) = r at hv hover
  clear h A hj k3 hb hm hl'
  cases r with
  | true =>
    simp only [if_true] at hv
    subst hv
    go_enter Try.func50, Try.ntmps50
    go_wp2
    go_quiet (fail)
    go_wp2
    go_quiet (fail)
    go_wp2_with (first
      | (go_at_call 51; refine (name_any t _ ht).mono ?_; rintro e w1 ⟨rfl, hb1⟩; have hB1 := below_of_drewN hb1; clear hb1)
      | (go_at_call 77; refine (at_n _ _ _ (by omega) (by omega) (by decide)).mono ?_; rintro e w2 ⟨rfl, rfl⟩))
    go_quiet (fail)
    go_wp2_with (go_at_call 78; refine (hover _ _ (by omega) (hB1.trans ((below_drewN _ _).mono hB1.size))).mono ?_; rintro e w3 ⟨rfl, hb3⟩)
    go_ret
    exact ⟨rfl, (hB1.trans ((below_drewN _ _).mono hB1.size)).trans (hb3.mono (Nat.le_trans hB1.size (Nat.le_refl _)))⟩
  | false =>
    simp only [Bool.false_eq_true, if_false] at hv
    subst hv
    go_enter Try.func50, Try.ntmps50
    go_wp2
    go_quiet (fail)
    go_wp2
    go_quiet (fail)
    go_wp2_with (first
      | (go_at_call 51; refine (name_any t _ ht).mono ?_; rintro e w1 ⟨rfl, hb1⟩; have hB1 := below_of_drewN hb1; clear hb1)
      | (go_at_call 77; refine (at_n _ _ _ (by omega) (by omega) (by decide)).mono ?_; rintro e w2 ⟨rfl, rfl⟩))
    go_quiet (fail)
    go_wp2_with (go_at_call 78; refine (hover _ _ (by omega) (hB1.trans ((below_drewN _ _).mono hB1.size))).mono ?_; rintro e w3 ⟨rfl, hb3⟩)
    go_ret
    exact ⟨rfl, (hB1.trans ((below_drewN _ _).mono hB1.size)).trans (hb3.mono (Nat.le_trans hB1.size (Nat.le_refl _)))⟩
end Go.Proofs.Ytfdbnilopfnifaa
