import Derived.Test.YtdfndcbakcmgiaaDoorD1
import Derived.Deep.AppendLies
namespace Go.Proofs.YtdfndcbakcmgiaaDoor
open Go.RowKit

def overOf (W : Wd) (j : Nat) : Bool := W.born[j]?.getD false && decide (W.place[j]?.getD 0 = (W.prog[j]?.getD []).length)
/-- What a thread is at whose next instruction is d. -/
def doSt (W : Wd) (t : Nat) (d : ByteArray) : Int :=
  if 97 ≤ byteI d 0 ∧ byteI d 0 ≤ 102 then lockSt t (W.has[(byteI d 0 - 97).toNat]?.getD none)
  else if 65 ≤ byteI d 0 ∧ byteI d 0 ≤ 70 then (if W.has[(byteI d 0 - 65).toNat]?.getD none = some t then 1 else 5)
  else if byteI d 0 = 62 then (if W.born[(byteI d 1 - 48).toNat]?.getD false = true then 5 else 1)
  else if byteI d 0 = 60 then (if overOf W (byteI d 1 - 48).toNat = true then 1 else 3)
  else 1
/-- What thread t is at. -/
def stateOf (W : Wd) (t : Nat) : Int :=
  if W.born[t]?.getD false = true then
    match (W.prog[t]?.getD [])[W.place[t]?.getD 0]? with
    | none => 4
    | some d => doSt W t d
  else 0

structure Wd.Good (W : Wd) : Prop where
  ok : W.Ok
  n5 : W.prog.length ≤ 5
  dok : ∀ (t : Nat) (l : List ByteArray) (j : Nat) (d : ByteArray), W.prog[t]? = some l → l[j]? = some d → DOk W.prog.length d
  pl : ∀ (t : Nat) (l : List ByteArray) (n : Nat), W.prog[t]? = some l → W.place[t]? = some n → n ≤ l.length
  len : ∀ (t : Nat) (l : List ByteArray), W.prog[t]? = some l → l.length ≤ 12
  has : ∀ (k u : Nat), W.has[k]? = some (some u) → u < W.prog.length

theorem get_some {α : Type} (l : List α) (j : Nat) (h : j < l.length) : ∃ x, l[j]? = some x := ⟨l[j], by simp [h]⟩

theorem State_any (p t : Nat) (W : Wd) (w : World) {gP cP gB cB gL cL gH cH gS cS : Nat} {aG : Option Addr} {cG : Nat} (h : WIn w p W gP cP gB cB gL cL gH cH gS cS aG cG) (G : W.Good) (ht : t < W.prog.length) (i : Int) (hi : i = t) :
    Calls Tryd.prog 26 #[.pointer (some ⟨p, 0, none⟩), .int .i64 i] w fun e w' => e = .returned (.int .i64 (stateOf W t)) ∧ Below w.heap.size w w' := by
  subst hi
  have h5 := G.n5
  obtain ⟨b, hb⟩ := get_some W.born t (by rw [G.ok.nb]; exact ht)
  obtain ⟨n, hn⟩ := get_some W.place t (by rw [G.ok.nl]; exact ht)
  obtain ⟨l, hl⟩ := get_some W.prog t ht
  have hnl := G.pl t l n hl hn
  unfold stateOf
  rw [hb, hn, hl]
  simp only [Option.getD_some]
  cases b with
  | false => exact state_unborn p t W w h hb
  | true =>
    simp only [if_true]
    by_cases hend : n = l.length
    · have : l[n]? = none := by simp [hend]
      rw [this]
      exact state_ended p t W w h n l hb hn hl hend
    · obtain ⟨d, hd⟩ := get_some l n (by omega)
      rw [hd]
      simp only
      have A : At W t n l d := ⟨hb, hn, hl, hd⟩
      have D := G.dok t l n d hl hd
      have hs := D.size
      unfold doSt
      have lo := byteI_lo d 0
      have hi := byteI_hi d 0
      split
      · rename_i hc
        obtain ⟨o, ho⟩ := get_some W.has (byteI d 0 - 97).toNat (by rw [G.ok.nh]; omega)
        rw [ho]
        refine state_lock p t W w h G.ok A (by omega) (byteI d 0 - 97).toNat (by omega) (by omega) (by omega) o ho ?_
        intro u hu
        rw [hu] at ho
        have := G.has _ _ ho; omega
      split
      · rename_i hc
        obtain ⟨o, ho⟩ := get_some W.has (byteI d 0 - 65).toNat (by rw [G.ok.nh]; omega)
        rw [ho]
        refine state_give p t W w h G.ok A (by omega) (by omega) (byteI d 0 - 65).toNat (by omega) (by omega) o ho ?_ _ rfl
        intro u hu
        rw [hu] at ho
        have := G.has _ _ ho; omega
      split
      · rename_i hc
        have hw : d.size = 2 := by rw [D.1, hc]; rfl
        obtain ⟨k1, k2⟩ : 48 ≤ byteI d 1 ∧ byteI d 1 < 48 + W.prog.length := by have := D.2; omega
        obtain ⟨b, hb'⟩ := get_some W.born (byteI d 1 - 48).toNat (by rw [G.ok.nb]; omega)
        rw [hb']
        exact state_start p t W w h A (by omega) (by omega) (by omega) hc (byteI d 1 - 48).toNat (by omega) (by omega) b hb' _ rfl
      split
      · rename_i hc
        have hw : d.size = 2 := by rw [D.1, hc]; rfl
        obtain ⟨k1, k2⟩ : 48 ≤ byteI d 1 ∧ byteI d 1 < 48 + W.prog.length := by have := D.2; omega
        obtain ⟨b, hb'⟩ := get_some W.born (byteI d 1 - 48).toNat (by rw [G.ok.nb]; omega)
        obtain ⟨m, hm⟩ := get_some W.place (byteI d 1 - 48).toNat (by rw [G.ok.nl]; omega)
        obtain ⟨l', hl'⟩ := get_some W.prog (byteI d 1 - 48).toNat (by omega)
        refine state_join p t W w h A (by omega) (by omega) (by omega) hc (byteI d 1 - 48).toNat (by omega) (by omega) b m l' hb' hm hl' _ ?_
        rw [overOf, hb', hm, hl']
        rfl
      · exact state_plain p t W w h A (by omega) (by omega) lo hi (by omega) (by omega) (by assumption) (by assumption)

/-- The locks of thread t, as letters, from lock k on. -/
def holdsLoop (has : List (Option Nat)) (t : Nat) (k : Nat) (acc : ByteArray) : ByteArray :=
  if k < 6 then holdsLoop has t (k + 1) (if has[k]?.getD none = some t then acc ++ lockS.extract k (k + 1) else acc) else acc
termination_by 6 - k
def holdsOf (W : Wd) (t : Nat) : ByteArray := holdsLoop W.has t 0 ⟨#[]⟩

set_option maxHeartbeats 1000000 in
theorem Holds_any (p t : Nat) (W : Wd) (w : World) {gP cP gB cB gL cL gH cH gS cS : Nat} {aG : Option Addr} {cG : Nat} (h : WIn w p W gP cP gB cB gL cL gH cH gS cS aG cG) (G : W.Good) (ht : t < W.prog.length) (i : Int) (hi : i = t) :
    Calls Tryd.prog 24 #[.pointer (some ⟨p, 0, none⟩), .int .i64 i] w fun e w' => e = .returned (.string (holdsOf W t)) ∧ Below w.heap.size w w' := by
  subst hi
  have h5 := G.n5
  have hh6 := G.ok.nh
  have f4 := h.fH
  go_enter Tryd.func24, Tryd.ntmps24
  go_wp2
  go_loopw [5, 6] (fun s i wr => ∃ (k : Nat) (acc : ByteArray), k ≤ 6 ∧ i = .int .i64 k ∧ s = .string acc ∧ acc.size ≤ k ∧ Hid (holdsOf W t = holdsLoop W.has t k acc) ∧ Below w.heap.size w wr) (fun _ i _ => 6 - (intOf i).toNat)
  case atStart => exact ⟨0, ⟨#[]⟩, by omega, rfl, rfl, Nat.zero_le _, rfl, Below.refl _ _⟩
  case round =>
    obtain ⟨k, acc, hk, rfl, rfl, hsz, hh, hB⟩ := hrel
    by_cases hlt : k < 6
    · obtain ⟨o, ho⟩ := get_some W.has k (by omega)
      have c4 := cell_later hB (h.cH' k o ho)
      have f5 := cell_later hB f4
      have hou : ∀ u, o = some u → u ≤ 100 := by
        intro u hu
        rw [hu] at ho
        have := G.has _ _ ho; omega
      have e2 := hasS_eq o t (by omega) hou
      have hh2 : Hid (holdsOf W t = holdsLoop W.has t (k + 1) (if o = some t then acc ++ lockS.extract k (k + 1) else acc)) := by
        rw [Hid, hh.out, holdsLoop, if_pos hlt, ho]; rfl
      clear hh
      have g4 : k < W.has.length := by omega
      by_cases hu : o = some t
      · rw [decide_eq_true hu] at e2
        rw [if_pos hu] at hh2
        clear hu hou h
        go_wp2
        go_region_held3 (fun w' => w'.cell? ⟨p, 3, none⟩ = some (.slice (some ⟨gH, 0, none⟩) W.has.length cH) ∧ w'.cell? ⟨gH, k, none⟩ = some (.string (hasS o))) (first | exact ⟨f5, c4⟩ | exact ⟨cell_later hb1 f5, cell_later hb1 c4⟩)
          (first | (go_at_call 13; refine (name_any t _ (by omega)).mono ?_; rintro e w1 ⟨rfl, hb1⟩))
        go_wp2
        go_roundw
        case rel => exact ⟨k + 1, acc ++ lockS.extract k (k + 1), by omega, by go_num, rfl, by rw [ByteArray.size_append, ByteArray.size_extract]; omega, hh2, (hB.drew.trans (hb1.mono hB.size))⟩
        case measure => simp [intOf]; omega
      · rw [decide_eq_false hu] at e2
        rw [if_neg hu] at hh2
        clear hu hou h
        go_wp2
        go_region_held3 (fun w' => w'.cell? ⟨p, 3, none⟩ = some (.slice (some ⟨gH, 0, none⟩) W.has.length cH) ∧ w'.cell? ⟨gH, k, none⟩ = some (.string (hasS o))) (first | exact ⟨f5, c4⟩ | exact ⟨cell_later hb1 f5, cell_later hb1 c4⟩)
          (first | (go_at_call 13; refine (name_any t _ (by omega)).mono ?_; rintro e w1 ⟨rfl, hb1⟩))
        go_wp2
        go_roundw
        case rel => exact ⟨k + 1, acc, by omega, by go_num, rfl, by omega, hh2, (hB.drew.trans (hb1.mono hB.size))⟩
        case measure => simp [intOf]; omega
    · have hh2 : holdsOf W t = acc := by rw [hh.out, holdsLoop, if_neg hlt]
      go_wp2
      go_ret
      exact ⟨by rw [hh2]; rfl, hB⟩
end Go.Proofs.YtdfndcbakcmgiaaDoor
namespace Go.Proofs.YtdfndcbakcmgiaaDoor
open Go.RowKit

theorem stateOf_at (W : Wd) (t : Nat) (h0 : stateOf W t ≠ 0) (h4 : stateOf W t ≠ 4) (G : W.Good) (ht : t < W.prog.length) : ∃ n l d, At W t n l d ∧ stateOf W t = doSt W t d := by
  obtain ⟨b, hb⟩ := get_some W.born t (by rw [G.ok.nb]; exact ht)
  obtain ⟨n, hn⟩ := get_some W.place t (by rw [G.ok.nl]; exact ht)
  obtain ⟨l, hl⟩ := get_some W.prog t ht
  have e : stateOf W t = if b = true then (match l[n]? with | none => 4 | some d => doSt W t d) else 0 := by
    unfold stateOf; rw [hb, hn, hl]; rfl
  cases b with
  | false => exact absurd (by rw [e]; rfl) h0
  | true =>
    cases hd : l[n]? with
    | none => exact absurd (by rw [e, hd]; rfl) h4
    | some d => exact ⟨n, l, d, ⟨hb, hn, hl, hd⟩, by rw [e, hd]; rfl⟩

theorem lockSt_two {t : Nat} {o : Option Nat} (h : lockSt t o = 2) : ∃ u, o = some u ∧ u ≠ t := by
  cases o with
  | none => simp [lockSt] at h
  | some u =>
    refine ⟨u, rfl, fun e => ?_⟩
    rw [lockSt, if_pos e] at h
    omega
theorem lockSt_val (t : Nat) (o : Option Nat) : lockSt t o = 1 ∨ lockSt t o = 5 ∨ lockSt t o = 2 := by
  cases o with
  | none => exact .inl rfl
  | some u => unfold lockSt; simp only; split <;> omega

theorem doSt_wants {W : Wd} {t : Nat} {d : ByteArray} (h : doSt W t d = 2) : (97 ≤ byteI d 0 ∧ byteI d 0 ≤ 102) ∧ lockSt t (W.has[(byteI d 0 - 97).toNat]?.getD none) = 2 := by
  unfold doSt at h
  split at h
  · exact ⟨by assumption, h⟩
  repeat' split at h
  all_goals omega
theorem doSt_joins {W : Wd} {t : Nat} {d : ByteArray} (h : doSt W t d = 3) : byteI d 0 = 60 ∧ overOf W (byteI d 1 - 48).toNat = false := by
  unfold doSt at h
  split at h
  · have := lockSt_val t (W.has[(byteI d 0 - 97).toNat]?.getD none); omega
  split at h
  · split at h <;> omega
  split at h
  · split at h <;> omega
  split at h
  · rename_i hc
    split at h
    · omega
    · rename_i ho; exact ⟨hc, by simpa using ho⟩
  · omega

/-- For which thread thread t waits, or -1. -/
def waitsOf (W : Wd) (t : Nat) : Int :=
  if stateOf W t = 2 then
    match W.has[(byteI ((W.prog[t]?.getD [])[W.place[t]?.getD 0]?.getD ⟨#[]⟩) 0 - 97).toNat]?.getD none with
    | some u => (u : Int)
    | none => -1
  else if stateOf W t = 3 then byteI ((W.prog[t]?.getD [])[W.place[t]?.getD 0]?.getD ⟨#[]⟩) 1 - 48
  else -1

theorem nameS_byte (u : Nat) (hu : u ≤ 100) (h : 0 < (nameS u).size) : ((nameS u)[0].toNat : Int) = 48 + u := by
  show ((UInt8.ofNat (48 + u)).toNat : Int) = _
  rw [UInt8.toNat_ofNat']
  omega
theorem nameS_size (u : Nat) : (nameS u).size = 1 := rfl

set_option maxHeartbeats 1000000 in
theorem waits_wants (p t : Nat) (W : Wd) (w : World) {gP cP gB cB gL cL gH cH gS cS : Nat} {aG : Option Addr} {cG : Nat} (h : WIn w p W gP cP gB cB gL cL gH cH gS cS aG cG) (G : W.Good) (ht : t < W.prog.length) (hst : stateOf W t = 2)
    {n : Nat} {l : List ByteArray} {d : ByteArray} (A : At W t n l d) (k : Nat) (hk6 : k < 6) (hd : 0 < d.size) (hk : byteI d 0 = 97 + k) (u : Nat) (hu : u ≤ 100) (ho : W.has[k]? = some (some u)) :
    Calls Tryd.prog 28 #[.pointer (some ⟨p, 0, none⟩), .int .i64 t] w fun e w' => e = .returned (.int .i64 u) ∧ Below w.heap.size w w' := by
  have hs := State_any p t W w h G ht t rfl
  rw [hst] at hs
  obtain ⟨g, c, f1, f2, f3, f4, _, c1, c2, c3, c5, g1, g2, g3, hln, hne⟩ := At.into h A
  have c4 := h.cH' k _ ho
  have g4 : k < W.has.length := by rw [G.ok.nh]; exact hk6
  have hb0 : (d[0].toNat : Int) = 97 + k := by rw [byteI_in hd]; exact hk
  have e1 : atI ⟨#[97, 98, 99, 100, 101, 102]⟩ (97 + k) = k := by rw [atI_lock (by omega) (by omega), atR_yes (by omega) (by omega)]; omega
  have hz : (nameS u).size = 1 := rfl
  have hb1 := nameS_byte u hu (by rw [hz]; omega)
  have hh : hasS (some u) = nameS u := rfl
  rw [hh] at c4
  clear h A hk ho hst hh G
  go_enter Tryd.func28, Tryd.ntmps28
  go_wp2_with (go_at_call 26; refine hs.mono ?_; rintro e w1 ⟨rfl, hB⟩; have f2' := cell_later hB f2; have f3' := cell_later hB f3; have f4' := cell_later hB f4; have c2' := cell_later hB c2; have c3' := cell_later hB c3; have c5' := cell_later hB c5; have c4' := cell_later hB c4; clear f1 f2 f3 f4 c1 c2 c3 c5 c4 hs)
  go_quiet ((go_at_call 25; exact Calls.quiet_of_same (at_n _ _ _ (by omega) (by omega) (by decide))))
  go_wp2
  go_ret
  exact ⟨ret_int (by omega), hB.trans ((below_drewN _ _).mono hB.size)⟩

set_option maxHeartbeats 1000000 in
theorem waits_joins (p t : Nat) (W : Wd) (w : World) {gP cP gB cB gL cL gH cH gS cS : Nat} {aG : Option Addr} {cG : Nat} (h : WIn w p W gP cP gB cB gL cL gH cH gS cS aG cG) (G : W.Good) (ht : t < W.prog.length) (hst : stateOf W t = 3)
    {n : Nat} {l : List ByteArray} {d : ByteArray} (A : At W t n l d) (hd : 1 < d.size) (j : Nat) (hj9 : j ≤ 9) (hj : byteI d 1 = 48 + j) :
    Calls Tryd.prog 28 #[.pointer (some ⟨p, 0, none⟩), .int .i64 t] w fun e w' => e = .returned (.int .i64 j) ∧ Below w.heap.size w w' := by
  have hs := State_any p t W w h G ht t rfl
  rw [hst] at hs
  obtain ⟨g, c, f1, f2, f3, f4, _, c1, c2, c3, c5, g1, g2, g3, hln, hne⟩ := At.into h A
  have hb1 : (d[1].toNat : Int) = 48 + j := by rw [byteI_in hd]; exact hj
  clear h A hst hj G
  go_enter Tryd.func28, Tryd.ntmps28
  go_wp2_with (go_at_call 26; refine hs.mono ?_; rintro e w1 ⟨rfl, hB⟩; have f2' := cell_later hB f2; have f3' := cell_later hB f3; have c2' := cell_later hB c2; have c3' := cell_later hB c3; have c5' := cell_later hB c5; clear f1 f2 f3 f4 c1 c2 c3 c5 hs)
  go_quiet (fail)
  go_wp2
  go_ret
  exact ⟨ret_int (by omega), hB.trans ((below_drewN _ _).mono hB.size)⟩

set_option maxHeartbeats 1000000 in
theorem waits_none (p t : Nat) (W : Wd) (w : World) {gP cP gB cB gL cL gH cH gS cS : Nat} {aG : Option Addr} {cG : Nat} (h : WIn w p W gP cP gB cB gL cL gH cH gS cS aG cG) (G : W.Good) (ht : t < W.prog.length) (h2 : stateOf W t ≠ 2) (h3 : stateOf W t ≠ 3) :
    Calls Tryd.prog 28 #[.pointer (some ⟨p, 0, none⟩), .int .i64 t] w fun e w' => e = .returned (.int .i64 (-1)) ∧ Below w.heap.size w w' := by
  have hs := State_any p t W w h G ht t rfl
  have b2 : (stateOf W t == 2) = false := by simpa using h2
  have b3 : (stateOf W t == 3) = false := by simpa using h3
  clear h h2 h3
  generalize stateOf W t = s at *
  go_enter Tryd.func28, Tryd.ntmps28
  go_wp2_with (go_at_call 26; refine hs.mono ?_; rintro e w1 ⟨rfl, hB⟩)
  go_ret
  exact ⟨rfl, hB⟩

theorem Waits_any (p t : Nat) (W : Wd) (w : World) {gP cP gB cB gL cL gH cH gS cS : Nat} {aG : Option Addr} {cG : Nat} (h : WIn w p W gP cP gB cB gL cL gH cH gS cS aG cG) (G : W.Good) (ht : t < W.prog.length) (i : Int) (hi : i = t) :
    Calls Tryd.prog 28 #[.pointer (some ⟨p, 0, none⟩), .int .i64 i] w fun e w' => e = .returned (.int .i64 (waitsOf W t)) ∧ Below w.heap.size w w' := by
  subst hi
  have h5 := G.n5
  unfold waitsOf
  split
  · rename_i hst
    obtain ⟨n, l, d, A, hdo⟩ := stateOf_at W t (by omega) (by omega) G ht
    rw [hst] at hdo
    obtain ⟨hc, hl⟩ := doSt_wants hdo.symm
    have D := G.dok t l n d A.prog A.txt
    have hs := D.size
    obtain ⟨o, ho⟩ := get_some W.has (byteI d 0 - 97).toNat (by rw [G.ok.nh]; omega)
    rw [A.prog, A.place]
    simp only [Option.getD_some]
    rw [A.txt]
    simp only [Option.getD_some]
    rw [ho] at hl ⊢
    simp only [Option.getD_some] at hl ⊢
    obtain ⟨u, rfl, hne⟩ := lockSt_two hl
    have := G.has _ _ ho
    exact waits_wants p t W w h G ht hst A (byteI d 0 - 97).toNat (by omega) (by omega) (by omega) u (by omega) ho
  · rename_i h2
    split
    · rename_i hst
      obtain ⟨n, l, d, A, hdo⟩ := stateOf_at W t (by omega) (by omega) G ht
      rw [hst] at hdo
      obtain ⟨hc, _⟩ := doSt_joins hdo.symm
      have D := G.dok t l n d A.prog A.txt
      have hw : d.size = 2 := by rw [D.1, hc]; rfl
      obtain ⟨k1, k2⟩ : 48 ≤ byteI d 1 ∧ byteI d 1 < 48 + W.prog.length := by have := D.2; omega
      rw [A.prog, A.place]
      simp only [Option.getD_some]
      rw [A.txt]
      simp only [Option.getD_some]
      have := waits_joins p t W w h G ht hst A (by omega) (byteI d 1 - 48).toNat (by omega) (by omega)
      have e : ((byteI d 1 - 48).toNat : Int) = byteI d 1 - 48 := by omega
      rw [e] at this
      exact this
    · rename_i h3
      exact waits_none p t W w h G ht h2 h3
end Go.Proofs.YtdfndcbakcmgiaaDoor
namespace Go.Proofs.YtdfndcbakcmgiaaDoor
open Go.RowKit

/-- The family with the sixth cell of the struct apart from the log's own value. -/
def famX (p : Nat) (x : Value) (W : Wd) (v : Six) (inner : List Value) : List RowD :=
  ⟨47, 1, .slice (some ⟨p, 0, none⟩) 6 6, 6, [v.P, v.B, v.L, v.H, v.S, x]⟩ ::
  ⟨4, 1, v.B, W.born.length, W.born.map Value.bool⟩ ::
  ⟨3, 1, v.L, W.place.length, placeCells W.place⟩ ::
  ⟨9, 1, v.H, W.has.length, hasCells W.has⟩ ::
  ⟨4, 1, v.S, W.set.length, W.set.map Value.bool⟩ ::
  ⟨89, 4, v.G, W.log.length, W.log.flatMap evCells⟩ ::
  ⟨35, 1, v.P, W.prog.length, inner⟩ :: rowsS W.prog inner
theorem famX_famW (p : Nat) (W : Wd) (v : Six) (inner : List Value) : famX p v.G W v inner = famW p W v inner := rfl

/-- What is known of the values and the blocks. -/
structure Forms (W : Wd) (v : Six) (gP cP gB cB gL cL gH cH gS cS : Nat) : Prop where
  eP : v.P = .slice (some ⟨gP, 0, none⟩) W.prog.length cP
  eB : v.B = .slice (some ⟨gB, 0, none⟩) W.born.length cB
  eL : v.L = .slice (some ⟨gL, 0, none⟩) W.place.length cL
  eH : v.H = .slice (some ⟨gH, 0, none⟩) W.has.length cH
  eS : v.S = .slice (some ⟨gS, 0, none⟩) W.set.length cS
theorem Fams.forms {w : World} {B p : Nat} {x : Value} {W : Wd} {v : Six} {inner : List Value} (hf : Fams w B (famX p x W v inner)) (ok : W.Ok) : ∃ gP cP gB cB gL cL gH cH gS cS, Forms W v gP cP gB cB gL cL gH cH gS cS := by
  have o1 := hf.own (r := ⟨4, 1, v.B, W.born.length, W.born.map Value.bool⟩) (by simp [famX])
  have o2 := hf.own (r := ⟨3, 1, v.L, W.place.length, placeCells W.place⟩) (by simp [famX])
  have o3 := hf.own (r := ⟨9, 1, v.H, W.has.length, hasCells W.has⟩) (by simp [famX])
  have o4 := hf.own (r := ⟨4, 1, v.S, W.set.length, W.set.map Value.bool⟩) (by simp [famX])
  have o6 := hf.own (r := ⟨35, 1, v.P, W.prog.length, inner⟩) (by simp [famX])
  simp only at o1 o2 o3 o4 o6
  obtain ⟨gB, cB, eB, _⟩ := ownsRow_form o1 (by have := ok.nb; have := ok.np; omega)
  obtain ⟨gL, cL, eL, _⟩ := ownsRow_form o2 (by have := ok.nl; have := ok.np; omega)
  obtain ⟨gH, cH, eH, _⟩ := ownsRow_form o3 (by have := ok.nh; omega)
  obtain ⟨gS, cS, eS, _⟩ := ownsRow_form o4 (by have := ok.ns; omega)
  obtain ⟨gP, cP, eP, _⟩ := ownsRow_form o6 ok.np
  exact ⟨gP, cP, gB, cB, gL, cL, gH, cH, gS, cS, eP, eB, eL, eH, eS⟩

/-- The cells, as they are read and may be written, in a world in which the family stands. -/
structure XIn (w : World) (p : Nat) (x : Value) (W : Wd) (gP cP gB cB gL cL gH cH gS cS : Nat) : Prop where
  fP : w.cell? ⟨p, 0, none⟩ = some (.slice (some ⟨gP, 0, none⟩) W.prog.length cP)
  fB : w.cell? ⟨p, 1, none⟩ = some (.slice (some ⟨gB, 0, none⟩) W.born.length cB)
  fL : w.cell? ⟨p, 2, none⟩ = some (.slice (some ⟨gL, 0, none⟩) W.place.length cL)
  fH : w.cell? ⟨p, 3, none⟩ = some (.slice (some ⟨gH, 0, none⟩) W.has.length cH)
  fS : w.cell? ⟨p, 4, none⟩ = some (.slice (some ⟨gS, 0, none⟩) W.set.length cS)
  fG : w.cell? ⟨p, 5, none⟩ = some x
  cB' : ∀ j y, W.born[j]? = some y → w.cell? ⟨gB, j, none⟩ = some (.bool y)
  cL' : ∀ (j : Nat) (y : Nat), W.place[j]? = some y → w.cell? ⟨gL, j, none⟩ = some (.int .i64 (y : Int))
  cH' : ∀ j y, W.has[j]? = some y → w.cell? ⟨gH, j, none⟩ = some (.string (hasS y))
  cS' : ∀ j y, W.set[j]? = some y → w.cell? ⟨gS, j, none⟩ = some (.bool y)
  cP' : ∀ t l, W.prog[t]? = some l → ∃ a c, w.cell? ⟨gP, t, none⟩ = some (.slice a l.length c) ∧ (l ≠ [] → ∃ g, a = some ⟨g, 0, none⟩ ∧ ∀ j y, l[j]? = some y → w.cell? ⟨g, j, none⟩ = some (.string y))
  zp : ∀ j, w.frozen? ⟨p, j, none⟩ = false
  zB : ∀ j, w.frozen? ⟨gB, j, none⟩ = false
  zL : ∀ j, w.frozen? ⟨gL, j, none⟩ = false
  zH : ∀ j, w.frozen? ⟨gH, j, none⟩ = false
  zS : ∀ j, w.frozen? ⟨gS, j, none⟩ = false
  dLp : gL ≠ p
  dHp : gH ≠ p
  dBp : gB ≠ p
  dSp : gS ≠ p
  dPp : gP ≠ p
  dHL : gH ≠ gL
  dBL : gB ≠ gL
  dSL : gS ≠ gL
  dPL : gP ≠ gL

theorem apart_of {f : List RowD} (h : f.Pairwise Apart) (i j : Nat) (a b : RowD) (hij : i < j) (hi : f[i]? = some a) (hj : f[j]? = some b) : Apart a b := by
  have := (List.pairwise_iff_getElem.1 h) i j (List.getElem?_eq_some_iff.1 hi).1 (List.getElem?_eq_some_iff.1 hj).1 hij
  rw [(List.getElem?_eq_some_iff.1 hi).2, (List.getElem?_eq_some_iff.1 hj).2] at this
  exact this

theorem Fams.xIn {w : World} {B p : Nat} {x : Value} {W : Wd} {v : Six} {inner : List Value} (hf : Fams w B (famX p x W v inner)) (hl : inner.length = W.prog.length) (ok : W.Ok)
    {gP cP gB cB gL cL gH cH gS cS : Nat} (F : Forms W v gP cP gB cB gL cL gH cH gS cS) : XIn w p x W gP cP gB cB gL cL gH cH gS cS := by
  have o0 := hf.own (r := ⟨47, 1, .slice (some ⟨p, 0, none⟩) 6 6, 6, [v.P, v.B, v.L, v.H, v.S, x]⟩) (by simp [famX])
  have o1 := hf.own (r := ⟨4, 1, v.B, W.born.length, W.born.map Value.bool⟩) (by simp [famX])
  have o2 := hf.own (r := ⟨3, 1, v.L, W.place.length, placeCells W.place⟩) (by simp [famX])
  have o3 := hf.own (r := ⟨9, 1, v.H, W.has.length, hasCells W.has⟩) (by simp [famX])
  have o4 := hf.own (r := ⟨4, 1, v.S, W.set.length, W.set.map Value.bool⟩) (by simp [famX])
  have o6 := hf.own (r := ⟨35, 1, v.P, W.prog.length, inner⟩) (by simp [famX])
  simp only at o0 o1 o2 o3 o4 o6
  have pw := hf.2
  have ap := fun i j a b hij hi hj => apart_of (f := famX p x W v inner) pw i j a b hij hi hj
  have a02 := ap 0 2 _ _ (by omega) rfl rfl
  have a03 := ap 0 3 _ _ (by omega) rfl rfl
  have a01 := ap 0 1 _ _ (by omega) rfl rfl
  have a04 := ap 0 4 _ _ (by omega) rfl rfl
  have a06 := ap 0 6 _ _ (by omega) rfl rfl
  have a23 := ap 2 3 _ _ (by omega) rfl rfl
  have a12 := ap 1 2 _ _ (by omega) rfl rfl
  have a24 := ap 2 4 _ _ (by omega) rfl rfl
  have a26 := ap 2 6 _ _ (by omega) rfl rfl
  simp only [Apart, F.eP, F.eB, F.eL, F.eH, F.eS, Value.ownBlock, reduceCtorEq, or_false, ne_eq, Option.some.injEq] at a02 a03 a01 a04 a06 a23 a12 a24 a26
  have kB := (ownsRow_form o1 (by have := ok.nb; have := ok.np; omega))
  have kL := (ownsRow_form o2 (by have := ok.nl; have := ok.np; omega))
  have kH := (ownsRow_form o3 (by have := ok.nh; omega))
  have kS := (ownsRow_form o4 (by have := ok.ns; omega))
  have kP := (ownsRow_form o6 ok.np)
  rw [F.eB] at kB o1
  rw [F.eL] at kL o2
  rw [F.eH] at kH o3
  rw [F.eS] at kS o4
  rw [F.eP] at kP
  simp only [Value.slice.injEq, Option.some.injEq, Addr.mk.injEq, and_true, true_and] at kB kL kH kS kP
  obtain ⟨_, _, ⟨rfl, rfl⟩, _, _, kB⟩ := kB
  obtain ⟨_, _, ⟨rfl, rfl⟩, _, _, kL⟩ := kL
  obtain ⟨_, _, ⟨rfl, rfl⟩, _, _, kH⟩ := kH
  obtain ⟨_, _, ⟨rfl, rfl⟩, _, _, kS⟩ := kS
  obtain ⟨_, _, ⟨rfl, rfl⟩, _, _, kP⟩ := kP
  have c := fun j y (hx : [v.P, v.B, v.L, v.H, v.S, x][j]? = some y) => (o0.cellAt j (by have := (List.getElem?_eq_some_iff.1 hx).1; simpa using this)).trans hx
  exact {
    fP := by rw [c 0 _ rfl, F.eP]
    fB := by rw [c 1 _ rfl, F.eB]
    fL := by rw [c 2 _ rfl, F.eL]
    fH := by rw [c 3 _ rfl, F.eH]
    fS := by rw [c 4 _ rfl, F.eS]
    fG := c 5 _ rfl
    cB' := fun j y hx => kB j _ (by simp [hx])
    cL' := fun j y hx => kL j _ (by simp [placeCells, hx])
    cH' := fun j y hx => kH j _ (by simp [hasCells, hx])
    cS' := fun j y hx => kS j _ (by simp [hx])
    cP' := fun t l hx => by
      obtain ⟨u, h1, h2⟩ := rowsS_mem W.prog inner t l hl hx
      have o7 := hf.own (r := ⟨9, 1, u, l.length, l.map Value.string⟩) (by simp [famX, h2])
      simp only at o7
      have hc := kP t u h1
      by_cases h0 : l.length = 0
      · rcases o7.2 with ⟨hv, _⟩ | ⟨g, cap, cur, hv, _⟩
        · exact ⟨none, 0, by rw [hc, hv, h0], fun h => absurd (List.length_eq_zero_iff.1 h0) h⟩
        · exact ⟨_, cap, by rw [hc, hv], fun h => absurd (List.length_eq_zero_iff.1 h0) h⟩
      · obtain ⟨g, cap, e, _, _, k⟩ := ownsRow_form o7 h0
        exact ⟨_, cap, by rw [hc, e], fun _ => ⟨g, rfl, fun j y hx => k j _ (by simp [hx])⟩⟩
    zp := fun j => o0.frozenAt j
    zB := fun j => o1.frozenAt j
    zL := fun j => o2.frozenAt j
    zH := fun j => o3.frozenAt j
    zS := fun j => o4.frozenAt j
    dLp := Ne.symm a02
    dHp := Ne.symm a03
    dBp := Ne.symm a01
    dSp := Ne.symm a04
    dPp := Ne.symm a06
    dHL := Ne.symm a23
    dBL := a12
    dSL := Ne.symm a24
    dPL := Ne.symm a26 }

/-- The log has grown by an event. -/
theorem Fams.logged {w w1 w2 : World} {B p : Nat} {x : Value} {W : Wd} {v : Six} {inner : List Value} (hf : Fams w B (famX p x W v inner)) (hb : Below w.heap.size w w1) (e : Ev) (g cap : Nat)
    (hown : w2.ownsRow B 89 4 (.slice (some ⟨g, 0, none⟩) (W.log.length + 1) cap) (W.log.length + 1) (W.log.flatMap evCells ++ evCells e)) (hg : w1.grownBy w2 v.G.ownBlock) (hat : v.G.ownBlock = some g ∨ g = w1.heap.size) :
    Fams w2 B (famX p x { W with log := W.log ++ [e] } { v with G := .slice (some ⟨g, 0, none⟩) (W.log.length + 1) cap } inner) := by
  have h1 := hf.below hb
  have hp : (famX p x W v inner).Perm (⟨89, 4, v.G, W.log.length, W.log.flatMap evCells⟩ :: ⟨47, 1, .slice (some ⟨p, 0, none⟩) 6 6, 6, [v.P, v.B, v.L, v.H, v.S, x]⟩ ::
      ⟨4, 1, v.B, W.born.length, W.born.map Value.bool⟩ :: ⟨3, 1, v.L, W.place.length, placeCells W.place⟩ :: ⟨9, 1, v.H, W.has.length, hasCells W.has⟩ :: ⟨4, 1, v.S, W.set.length, W.set.map Value.bool⟩ ::
      ⟨35, 1, v.P, W.prog.length, inner⟩ :: rowsS W.prog inner) := by
    exact List.perm_middle (l₁ := [_, _, _, _, _])
  have h2 := Fams.head (r' := ⟨89, 4, .slice (some ⟨g, 0, none⟩) (W.log.length + 1) cap, W.log.length + 1, W.log.flatMap evCells ++ evCells e⟩) (h1.perm hp) hg (by
    rcases hat with h | h
    · exact .inl h.symm
    · exact .inr ⟨g, rfl, by omega⟩) hown
  have h3 := h2.perm (List.perm_middle (l₁ := [_, _, _, _, _])).symm
  simpa [famX] using h3

/-- Cell j of the struct's block is written. -/
theorem Fams.putG {w : World} {B p : Nat} {x y : Value} {W : Wd} {v : Six} {inner : List Value} (hf : Fams w B (famX p x W v inner)) : Fams (w.setCell ⟨p, 5, none⟩ y) B (famX p y W v inner) := by
  have := Fams.store hf 5 y
  simpa [famX] using this

theorem swap2 {α : Type} (a b : α) (l : List α) : (a :: b :: l).Perm (b :: a :: l) := List.Perm.swap b a l
theorem perm1 (a b : RowD) (l : List RowD) : (a :: b :: l).Perm (b :: a :: l) := List.Perm.swap b a l
theorem perm2 (a b c : RowD) (l : List RowD) : (a :: b :: c :: l).Perm (c :: a :: b :: l) := List.perm_middle (l₁ := [a, b])
theorem perm3 (a b c d : RowD) (l : List RowD) : (a :: b :: c :: d :: l).Perm (d :: a :: b :: c :: l) := List.perm_middle (l₁ := [a, b, c])
theorem perm4 (a b c d e : RowD) (l : List RowD) : (a :: b :: c :: d :: e :: l).Perm (e :: a :: b :: c :: d :: l) := List.perm_middle (l₁ := [a, b, c, d])

theorem Fams.putB {w : World} {B p : Nat} {x : Value} {W : Wd} {v : Six} {inner : List Value} {g n cap : Nat} (hf : Fams w B (famX p x W v inner)) (hv : v.B = .slice (some ⟨g, 0, none⟩) n cap) (hn : n = W.born.length) (j : Nat) (b : Bool) :
    Fams (w.setCell ⟨g, j, none⟩ (.bool b)) B (famX p x { W with born := W.born.set j b } v inner) := by
  subst hn
  have h1 := hf.perm (perm1 _ _ _)
  rw [hv] at h1
  have h2 := (Fams.store h1 j (.bool b)).perm (perm1 _ _ _)
  simpa [famX, hv, List.map_set] using h2
theorem Fams.putL {w : World} {B p : Nat} {x : Value} {W : Wd} {v : Six} {inner : List Value} {g n cap : Nat} (hf : Fams w B (famX p x W v inner)) (hv : v.L = .slice (some ⟨g, 0, none⟩) n cap) (hn : n = W.place.length) (j : Nat) (b : Nat) (bi : Int) (hbi : bi = b) :
    Fams (w.setCell ⟨g, j, none⟩ (.int .i64 bi)) B (famX p x { W with place := W.place.set j b } v inner) := by
  subst hn hbi
  have h1 := hf.perm (perm2 _ _ _ _)
  rw [hv] at h1
  have h2 := (Fams.store h1 j (.int .i64 (b : Int))).perm (perm2 _ _ _ _).symm
  simpa [famX, hv, placeCells, List.map_set] using h2
theorem Fams.putH {w : World} {B p : Nat} {x : Value} {W : Wd} {v : Six} {inner : List Value} {g n cap : Nat} (hf : Fams w B (famX p x W v inner)) (hv : v.H = .slice (some ⟨g, 0, none⟩) n cap) (hn : n = W.has.length) (j : Nat) (b : Option Nat) (s : ByteArray) (hs : s = hasS b) :
    Fams (w.setCell ⟨g, j, none⟩ (.string s)) B (famX p x { W with has := W.has.set j b } v inner) := by
  subst hn hs
  have h1 := hf.perm (perm3 _ _ _ _ _)
  rw [hv] at h1
  have h2 := (Fams.store h1 j (.string (hasS b))).perm (perm3 _ _ _ _ _).symm
  simpa [famX, hv, hasCells, List.map_set] using h2
theorem Fams.putS {w : World} {B p : Nat} {x : Value} {W : Wd} {v : Six} {inner : List Value} {g n cap : Nat} (hf : Fams w B (famX p x W v inner)) (hv : v.S = .slice (some ⟨g, 0, none⟩) n cap) (hn : n = W.set.length) (j : Nat) (b : Bool) :
    Fams (w.setCell ⟨g, j, none⟩ (.bool b)) B (famX p x { W with set := W.set.set j b } v inner) := by
  subst hn
  have h1 := hf.perm (perm4 _ _ _ _ _ _)
  rw [hv] at h1
  have h2 := (Fams.store h1 j (.bool b)).perm (perm4 _ _ _ _ _ _).symm
  simpa [famX, hv, List.map_set] using h2
theorem Fams.drewN {w : World} {B : Nat} {f : List RowD} (h : Fams w B f) (n : Nat) : Fams (w.drewN n) B f := h.below (below_drewN w n)
/-- The log's block is none of the others. -/
theorem Fams.farG {w : World} {B p : Nat} {x : Value} {W : Wd} {v : Six} {inner : List Value} (hf : Fams w B (famX p x W v inner))
    {gP cP gB cB gL cL gH cH gS cS : Nat} (F : Forms W v gP cP gB cB gL cL gH cH gS cS) : some p ≠ v.G.ownBlock ∧ some gB ≠ v.G.ownBlock ∧ some gL ≠ v.G.ownBlock ∧ some gH ≠ v.G.ownBlock ∧ some gS ≠ v.G.ownBlock := by
  have ap := fun i j a b hij hi hj => apart_of (f := famX p x W v inner) hf.2 i j a b hij hi hj
  have a0 := ap 0 5 _ _ (by omega) rfl rfl
  have a1 := ap 1 5 _ _ (by omega) rfl rfl
  have a2 := ap 2 5 _ _ (by omega) rfl rfl
  have a3 := ap 3 5 _ _ (by omega) rfl rfl
  have a4 := ap 4 5 _ _ (by omega) rfl rfl
  simp only [Apart, F.eB, F.eL, F.eH, F.eS] at a0 a1 a2 a3 a4
  refine ⟨?_, ?_, ?_, ?_, ?_⟩
  · exact a0.resolve_right (by simp [Value.ownBlock])
  · exact a1.resolve_right (by simp [Value.ownBlock])
  · exact a2.resolve_right (by simp [Value.ownBlock])
  · exact a3.resolve_right (by simp [Value.ownBlock])
  · exact a4.resolve_right (by simp [Value.ownBlock])
/-- A cell that was there, behind a draw, a new block and an append to another row. -/
theorem cell_append {w w2 : World} {o : Obj} {row : Option Nat} {a : Addr} {u : Value} (hg : ((w.alloc o).drew).grownBy w2 row) (hc : w.cell? a = some u) (hne : some a.block ≠ row) : w2.cell? a = some u := by
  have hlt := World.block_lt_of_cell? w _ hc
  rw [hg.cell_far a (by show a.block < (w.heap.push o).size; simp; omega) hne]
  exact cell_later ((Below.refl _ _).alloc (Nat.le_refl _) _).drew hc
theorem frozen_append {w w2 : World} {o : Obj} {row : Option Nat} {a : Addr} {u : Value} (hg : ((w.alloc o).drew).grownBy w2 row) (hc : w.cell? a = some u) (hz : w.frozen? a = false) (hne : some a.block ≠ row) : w2.frozen? a = false := by
  have hlt := World.block_lt_of_cell? w _ hc
  rw [hg.frozen_far a (by show a.block < (w.heap.push o).size; simp; omega) hne]
  rw [(((Below.refl w.heap.size w).alloc (Nat.le_refl _) o).drew).frozen hlt]
  exact hz
theorem frozen_later {w wx : World} {a : Addr} {v : Value} (hb : Below w.heap.size w wx) (h : w.cell? a = some v) (hz : w.frozen? a = false) : wx.frozen? a = false :=
  (hb.frozen (World.block_lt_of_cell? _ _ h)).trans hz
end Go.Proofs.YtdfndcbakcmgiaaDoor
