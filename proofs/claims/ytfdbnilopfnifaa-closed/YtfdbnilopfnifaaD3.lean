import Derived.Test.YtfdbnilopfnifaaD2
namespace Go.Proofs.Ytfdbnilopfnifaa
open Go.RowKit

def overOf (W : Wd) (j : Nat) : Bool := W.born[j]?.getD false && decide (W.place[j]?.getD 0 = (W.prog[j]?.getD []).length)
/-- What a thread is at whose next instruction is d. -/
def doSt (W : Wd) (t : Nat) (d : ByteArray) : Int :=
  if 97 ≤ byteI d 0 ∧ byteI d 0 ≤ 102 then lockSt t (W.has[(byteI d 0 - 97).toNat]?.getD none)
  else if 65 ≤ byteI d 0 ∧ byteI d 0 ≤ 70 then (if W.has[(byteI d 0 - 65).toNat]?.getD none = some t then 1 else 5)
  else if byteI d 0 = 62 then (if W.born[(byteI d 1 - 48).toNat]?.getD false = true then 5 else 1)
  else if byteI d 0 = 60 then (if overOf W (byteI d 1 - 48).toNat = true then 1 else 3)
  else 1
/-- What thread t is at. -/
def stateOf (W : Wd) (t : Nat) : Int :=
  if W.born[t]?.getD false = true then
    match (W.prog[t]?.getD [])[W.place[t]?.getD 0]? with
    | none => 4
    | some d => doSt W t d
  else 0

structure Wd.Good (W : Wd) : Prop where
  ok : W.Ok
  n5 : W.prog.length ≤ 5
  dok : ∀ (t : Nat) (l : List ByteArray) (j : Nat) (d : ByteArray), W.prog[t]? = some l → l[j]? = some d → DOk W.prog.length d
  pl : ∀ (t : Nat) (l : List ByteArray) (n : Nat), W.prog[t]? = some l → W.place[t]? = some n → n ≤ l.length
  len : ∀ (t : Nat) (l : List ByteArray), W.prog[t]? = some l → l.length ≤ 12
  has : ∀ (k u : Nat), W.has[k]? = some (some u) → u < W.prog.length

theorem get_some {α : Type} (l : List α) (j : Nat) (h : j < l.length) : ∃ x, l[j]? = some x := ⟨l[j], by simp [h]⟩

theorem State_any (p t : Nat) (W : Wd) (w : World) {gP cP gB cB gL cL gH cH gS cS : Nat} {aG : Option Addr} {cG : Nat} (h : WIn w p W gP cP gB cB gL cL gH cH gS cS aG cG) (G : W.Good) (ht : t < W.prog.length) (i : Int) (hi : i = t) :
    Calls Try.prog 50 #[.pointer (some ⟨p, 0, none⟩), .int .i64 i] w fun e w' => e = .returned (.int .i64 (stateOf W t)) ∧ Below w.heap.size w w' := by
  subst hi
  have h5 := G.n5
  obtain ⟨b, hb⟩ := get_some W.born t (by rw [G.ok.nb]; exact ht)
  obtain ⟨n, hn⟩ := get_some W.place t (by rw [G.ok.nl]; exact ht)
  obtain ⟨l, hl⟩ := get_some W.prog t ht
  have hnl := G.pl t l n hl hn
  unfold stateOf
  rw [hb, hn, hl]
  simp only [Option.getD_some]
  cases b with
  | false => exact state_unborn p t W w h hb
  | true =>
    simp only [if_true]
    by_cases hend : n = l.length
    · have : l[n]? = none := by simp [hend]
      rw [this]
      exact state_ended p t W w h n l hb hn hl hend
    · obtain ⟨d, hd⟩ := get_some l n (by omega)
      rw [hd]
      simp only
      have A : At W t n l d := ⟨hb, hn, hl, hd⟩
      have D := G.dok t l n d hl hd
      have hs := D.size
      unfold doSt
      have lo := byteI_lo d 0
      have hi := byteI_hi d 0
      split
      · rename_i hc
        obtain ⟨o, ho⟩ := get_some W.has (byteI d 0 - 97).toNat (by rw [G.ok.nh]; omega)
        rw [ho]
        refine state_lock p t W w h G.ok A (by omega) (byteI d 0 - 97).toNat (by omega) (by omega) (by omega) o ho ?_
        intro u hu
        rw [hu] at ho
        have := G.has _ _ ho; omega
      split
      · rename_i hc
        obtain ⟨o, ho⟩ := get_some W.has (byteI d 0 - 65).toNat (by rw [G.ok.nh]; omega)
        rw [ho]
        refine state_give p t W w h G.ok A (by omega) (by omega) (byteI d 0 - 65).toNat (by omega) (by omega) o ho ?_ _ rfl
        intro u hu
        rw [hu] at ho
        have := G.has _ _ ho; omega
      split
      · rename_i hc
        have hw : d.size = 2 := by rw [D.1, hc]; rfl
        obtain ⟨k1, k2⟩ : 48 ≤ byteI d 1 ∧ byteI d 1 < 48 + W.prog.length := by have := D.2; omega
        obtain ⟨b, hb'⟩ := get_some W.born (byteI d 1 - 48).toNat (by rw [G.ok.nb]; omega)
        rw [hb']
        exact state_start p t W w h A (by omega) (by omega) (by omega) hc (byteI d 1 - 48).toNat (by omega) (by omega) b hb' _ rfl
      split
      · rename_i hc
        have hw : d.size = 2 := by rw [D.1, hc]; rfl
        obtain ⟨k1, k2⟩ : 48 ≤ byteI d 1 ∧ byteI d 1 < 48 + W.prog.length := by have := D.2; omega
        obtain ⟨b, hb'⟩ := get_some W.born (byteI d 1 - 48).toNat (by rw [G.ok.nb]; omega)
        obtain ⟨m, hm⟩ := get_some W.place (byteI d 1 - 48).toNat (by rw [G.ok.nl]; omega)
        obtain ⟨l', hl'⟩ := get_some W.prog (byteI d 1 - 48).toNat (by omega)
        refine state_join p t W w h A (by omega) (by omega) (by omega) hc (byteI d 1 - 48).toNat (by omega) (by omega) b m l' hb' hm hl' _ ?_
        rw [overOf, hb', hm, hl']
        rfl
      · exact state_plain p t W w h A (by omega) (by omega) lo hi (by omega) (by omega) (by assumption) (by assumption)

/-- The locks of thread t, as letters, from lock k on. -/
def holdsLoop (has : List (Option Nat)) (t : Nat) (k : Nat) (acc : ByteArray) : ByteArray :=
  if k < 6 then holdsLoop has t (k + 1) (if has[k]?.getD none = some t then acc ++ lockS.extract k (k + 1) else acc) else acc
termination_by 6 - k
def holdsOf (W : Wd) (t : Nat) : ByteArray := holdsLoop W.has t 0 ⟨#[]⟩

set_option maxHeartbeats 1000000 in
theorem Holds_any (p t : Nat) (W : Wd) (w : World) {gP cP gB cB gL cL gH cH gS cS : Nat} {aG : Option Addr} {cG : Nat} (h : WIn w p W gP cP gB cB gL cL gH cH gS cS aG cG) (G : W.Good) (ht : t < W.prog.length) (i : Int) (hi : i = t) :
    Calls Try.prog 79 #[.pointer (some ⟨p, 0, none⟩), .int .i64 i] w fun e w' => e = .returned (.string (holdsOf W t)) ∧ Below w.heap.size w w' := by
  subst hi
  have h5 := G.n5
  have hh6 := G.ok.nh
  have f4 := h.fH
  go_enter Try.func79, Try.ntmps79
  go_wp2
  go_loopw [5, 6] (fun s i wr => ∃ (k : Nat) (acc : ByteArray), k ≤ 6 ∧ i = .int .i64 k ∧ s = .string acc ∧ acc.size ≤ k ∧ Hid (holdsOf W t = holdsLoop W.has t k acc) ∧ Below w.heap.size w wr) (fun _ i _ => 6 - (intOf i).toNat)
  case atStart => exact ⟨0, ⟨#[]⟩, by omega, rfl, rfl, Nat.zero_le _, rfl, Below.refl _ _⟩
  case round =>
    obtain ⟨k, acc, hk, rfl, rfl, hsz, hh, hB⟩ := hrel
    by_cases hlt : k < 6
    · obtain ⟨o, ho⟩ := get_some W.has k (by omega)
      have c4 := cell_later hB (h.cH' k o ho)
      have f5 := cell_later hB f4
      have hou : ∀ u, o = some u → u ≤ 100 := by
        intro u hu
        rw [hu] at ho
        have := G.has _ _ ho; omega
      have e2 := hasS_eq o t (by omega) hou
      have hh2 : Hid (holdsOf W t = holdsLoop W.has t (k + 1) (if o = some t then acc ++ lockS.extract k (k + 1) else acc)) := by
        rw [Hid, hh.out, holdsLoop, if_pos hlt, ho]; rfl
      clear hh
      have g4 : k < W.has.length := by omega
      by_cases hu : o = some t
      · rw [decide_eq_true hu] at e2
        rw [if_pos hu] at hh2
        clear hu hou h
        go_wp2
        go_region_held3 (fun w' => w'.cell? ⟨p, 3, none⟩ = some (.slice (some ⟨gH, 0, none⟩) W.has.length cH) ∧ w'.cell? ⟨gH, k, none⟩ = some (.string (hasS o))) (first | exact ⟨f5, c4⟩ | exact ⟨cell_later hb1 f5, cell_later hb1 c4⟩)
          (first | (go_at_call 51; refine (name_any t _ (by omega)).mono ?_; rintro e w1 ⟨rfl, hb1⟩))
        go_wp2
        go_roundw
        case rel => exact ⟨k + 1, acc ++ lockS.extract k (k + 1), by omega, by go_num, rfl, by rw [ByteArray.size_append, ByteArray.size_extract]; omega, hh2, (hB.drew.trans (hb1.mono hB.size))⟩
        case measure => simp [intOf]; omega
      · rw [decide_eq_false hu] at e2
        rw [if_neg hu] at hh2
        clear hu hou h
        go_wp2
        go_region_held3 (fun w' => w'.cell? ⟨p, 3, none⟩ = some (.slice (some ⟨gH, 0, none⟩) W.has.length cH) ∧ w'.cell? ⟨gH, k, none⟩ = some (.string (hasS o))) (first | exact ⟨f5, c4⟩ | exact ⟨cell_later hb1 f5, cell_later hb1 c4⟩)
          (first | (go_at_call 51; refine (name_any t _ (by omega)).mono ?_; rintro e w1 ⟨rfl, hb1⟩))
        go_wp2
        go_roundw
        case rel => exact ⟨k + 1, acc, by omega, by go_num, rfl, by omega, hh2, (hB.drew.trans (hb1.mono hB.size))⟩
        case measure => simp [intOf]; omega
    · have hh2 : holdsOf W t = acc := by rw [hh.out, holdsLoop, if_neg hlt]
      go_wp2
      go_ret
      exact ⟨by rw [hh2]; rfl, hB⟩
end Go.Proofs.Ytfdbnilopfnifaa
namespace Go.Proofs.Ytfdbnilopfnifaa
open Go.RowKit

theorem stateOf_at (W : Wd) (t : Nat) (h0 : stateOf W t ≠ 0) (h4 : stateOf W t ≠ 4) (G : W.Good) (ht : t < W.prog.length) : ∃ n l d, At W t n l d ∧ stateOf W t = doSt W t d := by
  obtain ⟨b, hb⟩ := get_some W.born t (by rw [G.ok.nb]; exact ht)
  obtain ⟨n, hn⟩ := get_some W.place t (by rw [G.ok.nl]; exact ht)
  obtain ⟨l, hl⟩ := get_some W.prog t ht
  have e : stateOf W t = if b = true then (match l[n]? with | none => 4 | some d => doSt W t d) else 0 := by
    unfold stateOf; rw [hb, hn, hl]; rfl
  cases b with
  | false => exact absurd (by rw [e]; rfl) h0
  | true =>
    cases hd : l[n]? with
    | none => exact absurd (by rw [e, hd]; rfl) h4
    | some d => exact ⟨n, l, d, ⟨hb, hn, hl, hd⟩, by rw [e, hd]; rfl⟩

theorem lockSt_two {t : Nat} {o : Option Nat} (h : lockSt t o = 2) : ∃ u, o = some u ∧ u ≠ t := by
  cases o with
  | none => simp [lockSt] at h
  | some u =>
    refine ⟨u, rfl, fun e => ?_⟩
    rw [lockSt, if_pos e] at h
    omega
theorem lockSt_val (t : Nat) (o : Option Nat) : lockSt t o = 1 ∨ lockSt t o = 5 ∨ lockSt t o = 2 := by
  cases o with
  | none => exact .inl rfl
  | some u => unfold lockSt; simp only; split <;> omega

theorem doSt_wants {W : Wd} {t : Nat} {d : ByteArray} (h : doSt W t d = 2) : (97 ≤ byteI d 0 ∧ byteI d 0 ≤ 102) ∧ lockSt t (W.has[(byteI d 0 - 97).toNat]?.getD none) = 2 := by
  unfold doSt at h
  split at h
  · exact ⟨by assumption, h⟩
  repeat' split at h
  all_goals omega
theorem doSt_joins {W : Wd} {t : Nat} {d : ByteArray} (h : doSt W t d = 3) : byteI d 0 = 60 ∧ overOf W (byteI d 1 - 48).toNat = false := by
  unfold doSt at h
  split at h
  · have := lockSt_val t (W.has[(byteI d 0 - 97).toNat]?.getD none); omega
  split at h
  · split at h <;> omega
  split at h
  · split at h <;> omega
  split at h
  · rename_i hc
    split at h
    · omega
    · rename_i ho; exact ⟨hc, by simpa using ho⟩
  · omega

/-- For which thread thread t waits, or -1. -/
def waitsOf (W : Wd) (t : Nat) : Int :=
  if stateOf W t = 2 then
    match W.has[(byteI ((W.prog[t]?.getD [])[W.place[t]?.getD 0]?.getD ⟨#[]⟩) 0 - 97).toNat]?.getD none with
    | some u => (u : Int)
    | none => -1
  else if stateOf W t = 3 then byteI ((W.prog[t]?.getD [])[W.place[t]?.getD 0]?.getD ⟨#[]⟩) 1 - 48
  else -1

theorem nameS_byte (u : Nat) (hu : u ≤ 100) (h : 0 < (nameS u).size) : ((nameS u)[0].toNat : Int) = 48 + u := by
  show ((UInt8.ofNat (48 + u)).toNat : Int) = _
  rw [UInt8.toNat_ofNat']
  omega
theorem nameS_size (u : Nat) : (nameS u).size = 1 := rfl

set_option maxHeartbeats 1000000 in
theorem waits_wants (p t : Nat) (W : Wd) (w : World) {gP cP gB cB gL cL gH cH gS cS : Nat} {aG : Option Addr} {cG : Nat} (h : WIn w p W gP cP gB cB gL cL gH cH gS cS aG cG) (G : W.Good) (ht : t < W.prog.length) (hst : stateOf W t = 2)
    {n : Nat} {l : List ByteArray} {d : ByteArray} (A : At W t n l d) (k : Nat) (hk6 : k < 6) (hd : 0 < d.size) (hk : byteI d 0 = 97 + k) (u : Nat) (hu : u ≤ 100) (ho : W.has[k]? = some (some u)) :
    Calls Try.prog 88 #[.pointer (some ⟨p, 0, none⟩), .int .i64 t] w fun e w' => e = .returned (.int .i64 u) ∧ Below w.heap.size w w' := by
  have hs := State_any p t W w h G ht t rfl
  rw [hst] at hs
  obtain ⟨g, c, f1, f2, f3, f4, _, c1, c2, c3, c5, g1, g2, g3, hln, hne⟩ := At.into h A
  have c4 := h.cH' k _ ho
  have g4 : k < W.has.length := by rw [G.ok.nh]; exact hk6
  have hb0 : (d[0].toNat : Int) = 97 + k := by rw [byteI_in hd]; exact hk
  have e1 : atI ⟨#[97, 98, 99, 100, 101, 102]⟩ (97 + k) = k := by rw [atI_lock (by omega) (by omega), atR_yes (by omega) (by omega)]; omega
  have hz : (nameS u).size = 1 := rfl
  have hb1 := nameS_byte u hu (by rw [hz]; omega)
  have hh : hasS (some u) = nameS u := rfl
  rw [hh] at c4
  clear h A hk ho hst hh G
  go_enter Try.func88, Try.ntmps88
  go_wp2_with (go_at_call 50; refine hs.mono ?_; rintro e w1 ⟨rfl, hB⟩; have f2' := cell_later hB f2; have f3' := cell_later hB f3; have f4' := cell_later hB f4; have c2' := cell_later hB c2; have c3' := cell_later hB c3; have c5' := cell_later hB c5; have c4' := cell_later hB c4; clear f1 f2 f3 f4 c1 c2 c3 c5 c4 hs)
  go_quiet ((go_at_call 77; exact Calls.quiet_of_same (at_n _ _ _ (by omega) (by omega) (by decide))))
  go_wp2
  go_ret
  exact ⟨ret_int (by omega), hB.trans ((below_drewN _ _).mono hB.size)⟩

set_option maxHeartbeats 1000000 in
theorem waits_joins (p t : Nat) (W : Wd) (w : World) {gP cP gB cB gL cL gH cH gS cS : Nat} {aG : Option Addr} {cG : Nat} (h : WIn w p W gP cP gB cB gL cL gH cH gS cS aG cG) (G : W.Good) (ht : t < W.prog.length) (hst : stateOf W t = 3)
    {n : Nat} {l : List ByteArray} {d : ByteArray} (A : At W t n l d) (hd : 1 < d.size) (j : Nat) (hj9 : j ≤ 9) (hj : byteI d 1 = 48 + j) :
    Calls Try.prog 88 #[.pointer (some ⟨p, 0, none⟩), .int .i64 t] w fun e w' => e = .returned (.int .i64 j) ∧ Below w.heap.size w w' := by
  have hs := State_any p t W w h G ht t rfl
  rw [hst] at hs
  obtain ⟨g, c, f1, f2, f3, f4, _, c1, c2, c3, c5, g1, g2, g3, hln, hne⟩ := At.into h A
  have hb1 : (d[1].toNat : Int) = 48 + j := by rw [byteI_in hd]; exact hj
  clear h A hst hj G
  go_enter Try.func88, Try.ntmps88
  go_wp2_with (go_at_call 50; refine hs.mono ?_; rintro e w1 ⟨rfl, hB⟩; have f2' := cell_later hB f2; have f3' := cell_later hB f3; have c2' := cell_later hB c2; have c3' := cell_later hB c3; have c5' := cell_later hB c5; clear f1 f2 f3 f4 c1 c2 c3 c5 hs)
  go_quiet (fail)
  go_wp2
  go_ret
  exact ⟨ret_int (by omega), hB.trans ((below_drewN _ _).mono hB.size)⟩

set_option maxHeartbeats 1000000 in
theorem waits_none (p t : Nat) (W : Wd) (w : World) {gP cP gB cB gL cL gH cH gS cS : Nat} {aG : Option Addr} {cG : Nat} (h : WIn w p W gP cP gB cB gL cL gH cH gS cS aG cG) (G : W.Good) (ht : t < W.prog.length) (h2 : stateOf W t ≠ 2) (h3 : stateOf W t ≠ 3) :
    Calls Try.prog 88 #[.pointer (some ⟨p, 0, none⟩), .int .i64 t] w fun e w' => e = .returned (.int .i64 (-1)) ∧ Below w.heap.size w w' := by
  have hs := State_any p t W w h G ht t rfl
  have b2 : (stateOf W t == 2) = false := by simpa using h2
  have b3 : (stateOf W t == 3) = false := by simpa using h3
  clear h h2 h3
  generalize stateOf W t = s at *
  go_enter Try.func88, Try.ntmps88
  go_wp2_with (go_at_call 50; refine hs.mono ?_; rintro e w1 ⟨rfl, hB⟩)
  go_ret
  exact ⟨rfl, hB⟩

theorem Waits_any (p t : Nat) (W : Wd) (w : World) {gP cP gB cB gL cL gH cH gS cS : Nat} {aG : Option Addr} {cG : Nat} (h : WIn w p W gP cP gB cB gL cL gH cH gS cS aG cG) (G : W.Good) (ht : t < W.prog.length) (i : Int) (hi : i = t) :
    Calls Try.prog 88 #[.pointer (some ⟨p, 0, none⟩), .int .i64 i] w fun e w' => e = .returned (.int .i64 (waitsOf W t)) ∧ Below w.heap.size w w' := by
  subst hi
  have h5 := G.n5
  unfold waitsOf
  split
  · rename_i hst
    obtain ⟨n, l, d, A, hdo⟩ := stateOf_at W t (by omega) (by omega) G ht
    rw [hst] at hdo
    obtain ⟨hc, hl⟩ := doSt_wants hdo.symm
    have D := G.dok t l n d A.prog A.txt
    have hs := D.size
    obtain ⟨o, ho⟩ := get_some W.has (byteI d 0 - 97).toNat (by rw [G.ok.nh]; omega)
    rw [A.prog, A.place]
    simp only [Option.getD_some]
    rw [A.txt]
    simp only [Option.getD_some]
    rw [ho] at hl ⊢
    simp only [Option.getD_some] at hl ⊢
    obtain ⟨u, rfl, hne⟩ := lockSt_two hl
    have := G.has _ _ ho
    exact waits_wants p t W w h G ht hst A (byteI d 0 - 97).toNat (by omega) (by omega) (by omega) u (by omega) ho
  · rename_i h2
    split
    · rename_i hst
      obtain ⟨n, l, d, A, hdo⟩ := stateOf_at W t (by omega) (by omega) G ht
      rw [hst] at hdo
      obtain ⟨hc, _⟩ := doSt_joins hdo.symm
      have D := G.dok t l n d A.prog A.txt
      have hw : d.size = 2 := by rw [D.1, hc]; rfl
      obtain ⟨k1, k2⟩ : 48 ≤ byteI d 1 ∧ byteI d 1 < 48 + W.prog.length := by have := D.2; omega
      rw [A.prog, A.place]
      simp only [Option.getD_some]
      rw [A.txt]
      simp only [Option.getD_some]
      have := waits_joins p t W w h G ht hst A (by omega) (byteI d 1 - 48).toNat (by omega) (by omega)
      have e : ((byteI d 1 - 48).toNat : Int) = byteI d 1 - 48 := by omega
      rw [e] at this
      exact this
    · rename_i h3
      exact waits_none p t W w h G ht h2 h3
end Go.Proofs.Ytfdbnilopfnifaa
