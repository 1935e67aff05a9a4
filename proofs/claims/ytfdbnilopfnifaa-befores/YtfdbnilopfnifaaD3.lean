import Derived.Test.YtfdbnilopfnifaaD2
namespace Go.Proofs.Ytfdbnilopfnifaa
open Go.RowKit

def overOf (W : Wd) (j : Nat) : Bool := W.born[j]?.getD false && decide (W.place[j]?.getD 0 = (W.prog[j]?.getD []).length)
/-- What a thread is at whose next instruction is d. -/
def doSt (W : Wd) (t : Nat) (d : ByteArray) : Int :=
  if 97 ≤ byteI d 0 ∧ byteI d 0 ≤ 102 then lockSt t (W.has[(byteI d 0 - 97).toNat]?.getD none)
  else if 65 ≤ byteI d 0 ∧ byteI d 0 ≤ 70 then (if W.has[(byteI d 0 - 65).toNat]?.getD none = some t then 1 else 5)
  else if byteI d 0 = 62 then (if W.born[(byteI d 1 - 48).toNat]?.getD false = true then 5 else 1)
  else if byteI d 0 = 60 then (if overOf W (byteI d 1 - 48).toNat = true then 1 else 3)
  else 1
/-- What thread t is at. -/
def stateOf (W : Wd) (t : Nat) : Int :=
  if W.born[t]?.getD false = true then
    match (W.prog[t]?.getD [])[W.place[t]?.getD 0]? with
    | none => 4
    | some d => doSt W t d
  else 0

structure Wd.Good (W : Wd) : Prop where
  ok : W.Ok
  n5 : W.prog.length ≤ 5
  dok : ∀ (t : Nat) (l : List ByteArray) (j : Nat) (d : ByteArray), W.prog[t]? = some l → l[j]? = some d → DOk W.prog.length d
  pl : ∀ (t : Nat) (l : List ByteArray) (n : Nat), W.prog[t]? = some l → W.place[t]? = some n → n ≤ l.length
  len : ∀ (t : Nat) (l : List ByteArray), W.prog[t]? = some l → l.length ≤ 12
  has : ∀ (k u : Nat), W.has[k]? = some (some u) → u < W.prog.length

theorem get_some {α : Type} (l : List α) (j : Nat) (h : j < l.length) : ∃ x, l[j]? = some x := ⟨l[j], by simp [h]⟩

theorem State_any (p t : Nat) (W : Wd) (w : World) {gP cP gB cB gL cL gH cH gS cS : Nat} {aG : Option Addr} {cG : Nat} (h : WIn w p W gP cP gB cB gL cL gH cH gS cS aG cG) (G : W.Good) (ht : t < W.prog.length) (i : Int) (hi : i = t) :
    Calls Try.prog 50 #[.pointer (some ⟨p, 0, none⟩), .int .i64 i] w fun e w' => e = .returned (.int .i64 (stateOf W t)) ∧ Below w.heap.size w w' := by
  subst hi
  have h5 := G.n5
  obtain ⟨b, hb⟩ := get_some W.born t (by rw [G.ok.nb]; exact ht)
  obtain ⟨n, hn⟩ := get_some W.place t (by rw [G.ok.nl]; exact ht)
  obtain ⟨l, hl⟩ := get_some W.prog t ht
  have hnl := G.pl t l n hl hn
  unfold stateOf
  rw [hb, hn, hl]
  simp only [Option.getD_some]
  cases b with
  | false => exact state_unborn p t W w h hb
  | true =>
    simp only [if_true]
    by_cases hend : n = l.length
    · have : l[n]? = none := by simp [hend]
      rw [this]
      exact state_ended p t W w h n l hb hn hl hend
    · obtain ⟨d, hd⟩ := get_some l n (by omega)
      rw [hd]
      simp only
      have A : At W t n l d := ⟨hb, hn, hl, hd⟩
      have D := G.dok t l n d hl hd
      have hs := D.size
      unfold doSt
      have lo := byteI_lo d 0
      have hi := byteI_hi d 0
      split
      · rename_i hc
        obtain ⟨o, ho⟩ := get_some W.has (byteI d 0 - 97).toNat (by rw [G.ok.nh]; omega)
        rw [ho]
        refine state_lock p t W w h G.ok A (by omega) (byteI d 0 - 97).toNat (by omega) (by omega) (by omega) o ho ?_
        intro u hu
        rw [hu] at ho
        have := G.has _ _ ho; omega
      split
      · rename_i hc
        obtain ⟨o, ho⟩ := get_some W.has (byteI d 0 - 65).toNat (by rw [G.ok.nh]; omega)
        rw [ho]
        refine state_give p t W w h G.ok A (by omega) (by omega) (byteI d 0 - 65).toNat (by omega) (by omega) o ho ?_ _ rfl
        intro u hu
        rw [hu] at ho
        have := G.has _ _ ho; omega
      split
      · rename_i hc
        have hw : d.size = 2 := by rw [D.1, hc]; rfl
        obtain ⟨k1, k2⟩ : 48 ≤ byteI d 1 ∧ byteI d 1 < 48 + W.prog.length := by have := D.2; omega
        obtain ⟨b, hb'⟩ := get_some W.born (byteI d 1 - 48).toNat (by rw [G.ok.nb]; omega)
        rw [hb']
        exact state_start p t W w h A (by omega) (by omega) (by omega) hc (byteI d 1 - 48).toNat (by omega) (by omega) b hb' _ rfl
      split
      · rename_i hc
        have hw : d.size = 2 := by rw [D.1, hc]; rfl
        obtain ⟨k1, k2⟩ : 48 ≤ byteI d 1 ∧ byteI d 1 < 48 + W.prog.length := by have := D.2; omega
        obtain ⟨b, hb'⟩ := get_some W.born (byteI d 1 - 48).toNat (by rw [G.ok.nb]; omega)
        obtain ⟨m, hm⟩ := get_some W.place (byteI d 1 - 48).toNat (by rw [G.ok.nl]; omega)
        obtain ⟨l', hl'⟩ := get_some W.prog (byteI d 1 - 48).toNat (by omega)
        refine state_join p t W w h A (by omega) (by omega) (by omega) hc (byteI d 1 - 48).toNat (by omega) (by omega) b m l' hb' hm hl' _ ?_
        rw [overOf, hb', hm, hl']
        rfl
      · exact state_plain p t W w h A (by omega) (by omega) lo hi (by omega) (by omega) (by assumption) (by assumption)

/-- The locks of thread t, as letters, from lock k on. -/
def holdsLoop (has : List (Option Nat)) (t : Nat) (k : Nat) (acc : ByteArray) : ByteArray :=
  if k < 6 then holdsLoop has t (k + 1) (if has[k]?.getD none = some t then acc ++ lockS.extract k (k + 1) else acc) else acc
termination_by 6 - k
def holdsOf (W : Wd) (t : Nat) : ByteArray := holdsLoop W.has t 0 ⟨#[]⟩

set_option maxHeartbeats 1000000 in
theorem Holds_any (p t : Nat) (W : Wd) (w : World) {gP cP gB cB gL cL gH cH gS cS : Nat} {aG : Option Addr} {cG : Nat} (h : WIn w p W gP cP gB cB gL cL gH cH gS cS aG cG) (G : W.Good) (ht : t < W.prog.length) (i : Int) (hi : i = t) :
    Calls Try.prog 79 #[.pointer (some ⟨p, 0, none⟩), .int .i64 i] w fun e w' => e = .returned (.string (holdsOf W t)) ∧ Below w.heap.size w w' := by
  subst hi
  have h5 := G.n5
  have hh6 := G.ok.nh
  have f4 := h.fH
  go_enter Try.func79, Try.ntmps79
  go_wp2
  go_loopw [5, 6] (fun s i wr => ∃ (k : Nat) (acc : ByteArray), k ≤ 6 ∧ i = .int .i64 k ∧ s = .string acc ∧ acc.size ≤ k ∧ Hid (holdsOf W t = holdsLoop W.has t k acc) ∧ Below w.heap.size w wr) (fun _ i _ => 6 - (intOf i).toNat)
  case atStart => exact ⟨0, ⟨#[]⟩, by omega, rfl, rfl, Nat.zero_le _, rfl, Below.refl _ _⟩
  case round =>
    obtain ⟨k, acc, hk, rfl, rfl, hsz, hh, hB⟩ := hrel
    by_cases hlt : k < 6
    · obtain ⟨o, ho⟩ := get_some W.has k (by omega)
      have c4 := cell_later hB (h.cH' k o ho)
      have f5 := cell_later hB f4
      have hou : ∀ u, o = some u → u ≤ 100 := by
        intro u hu
        rw [hu] at ho
        have := G.has _ _ ho; omega
      have e2 := hasS_eq o t (by omega) hou
      have hh2 : Hid (holdsOf W t = holdsLoop W.has t (k + 1) (if o = some t then acc ++ lockS.extract k (k + 1) else acc)) := by
        rw [Hid, hh.out, holdsLoop, if_pos hlt, ho]; rfl
      clear hh
      have g4 : k < W.has.length := by omega
      by_cases hu : o = some t
      · rw [decide_eq_true hu] at e2
        rw [if_pos hu] at hh2
        clear hu hou h
        go_wp2
        go_region_held3 (fun w' => w'.cell? ⟨p, 3, none⟩ = some (.slice (some ⟨gH, 0, none⟩) W.has.length cH) ∧ w'.cell? ⟨gH, k, none⟩ = some (.string (hasS o))) (first | exact ⟨f5, c4⟩ | exact ⟨cell_later hb1 f5, cell_later hb1 c4⟩)
          (first | (go_at_call 51; refine (name_any t _ (by omega)).mono ?_; rintro e w1 ⟨rfl, hb1⟩))
        go_wp2
        go_roundw
        case rel => exact ⟨k + 1, acc ++ lockS.extract k (k + 1), by omega, by go_num, rfl, by rw [ByteArray.size_append, ByteArray.size_extract]; omega, hh2, (hB.drew.trans (hb1.mono hB.size))⟩
        case measure => simp [intOf]; omega
      · rw [decide_eq_false hu] at e2
        rw [if_neg hu] at hh2
        clear hu hou h
        go_wp2
        go_region_held3 (fun w' => w'.cell? ⟨p, 3, none⟩ = some (.slice (some ⟨gH, 0, none⟩) W.has.length cH) ∧ w'.cell? ⟨gH, k, none⟩ = some (.string (hasS o))) (first | exact ⟨f5, c4⟩ | exact ⟨cell_later hb1 f5, cell_later hb1 c4⟩)
          (first | (go_at_call 51; refine (name_any t _ (by omega)).mono ?_; rintro e w1 ⟨rfl, hb1⟩))
        go_wp2
        go_roundw
        case rel => exact ⟨k + 1, acc, by omega, by go_num, rfl, by omega, hh2, (hB.drew.trans (hb1.mono hB.size))⟩
        case measure => simp [intOf]; omega
    · have hh2 : holdsOf W t = acc := by rw [hh.out, holdsLoop, if_neg hlt]
      go_wp2
      go_ret
      exact ⟨by rw [hh2]; rfl, hB⟩
end Go.Proofs.Ytfdbnilopfnifaa
