import Derived.Test.YtdfndcbakcmgiabDoorE12
import Derived.Test.YtdfndcbakcmgiabDoorD1
import Derived.Test.YtdfndcbakcmgiabDoorC1
namespace Go.Proofs.YtdfndcbakcmgiabDoor
open Go.RowKit

/-! The two machines side by side: the reference's world and the program's state. -/
def progL (W : Wd) : List (List Stp) := W.prog.map fun l => l.map stpOf
def msOf (W : Wd) : MS := ⟨W.born ++ List.replicate (5 - W.prog.length) false, W.place ++ List.replicate (5 - W.prog.length) 0, W.has, W.set⟩

theorem progL_len (W : Wd) : (progL W).length = W.prog.length := by simp [progL]
theorem progL_get (W : Wd) (t : Nat) : (progL W)[t]?.getD [] = (W.prog[t]?.getD []).map stpOf := by
  rw [progL, List.getElem?_map]
  cases W.prog[t]? <;> rfl
theorem msOf_ok {W : Wd} (G : W.Good) : (msOf W).Ok :=
  ⟨by have := G.n5; have := G.ok.nb; simp [msOf]; omega, by have := G.n5; have := G.ok.nl; simp [msOf]; omega, G.ok.nh, G.ok.ns⟩
theorem msOf_st {W : Wd} (G : W.Good) {t : Nat} (h : t < W.prog.length) : (msOf W).st[t]? = W.born[t]? := by
  rw [msOf]; exact List.getElem?_append_left (by rw [G.ok.nb]; exact h)
theorem msOf_pl {W : Wd} (G : W.Good) {t : Nat} (h : t < W.prog.length) : (msOf W).pl[t]? = W.place[t]? := by
  rw [msOf]; exact List.getElem?_append_left (by rw [G.ok.nl]; exact h)

inductive Kd (n : Nat) (d : ByteArray) : Stp → Prop
  | dot : byteI d 0 = 46 → Kd n d ⟨0, 0, 0⟩
  | take (k : Nat) : k < 6 → byteI d 0 = 97 + k → Kd n d ⟨1, k, 0⟩
  | give (k : Nat) : k < 6 → byteI d 0 = 65 + k → Kd n d ⟨2, k, 0⟩
  | set (k : Nat) : k < 6 → byteI d 0 = 33 → byteI d 1 = 117 + k → Kd n d ⟨3, k, 0⟩
  | clear (k : Nat) : k < 6 → byteI d 0 = 126 → byteI d 1 = 117 + k → Kd n d ⟨4, k, 0⟩
  | skip (k q : Nat) : k < 6 → q ≤ 9 → byteI d 0 = 63 → byteI d 1 = 117 + k → byteI d 2 = 48 + q → Kd n d ⟨5, k, q⟩
  | start (u : Nat) : u < n → byteI d 0 = 62 → byteI d 1 = 48 + u → Kd n d ⟨6, u, 0⟩
  | join (u : Nat) : u < n → byteI d 0 = 60 → byteI d 1 = 48 + u → Kd n d ⟨7, u, 0⟩

theorem stpOf_kd {n : Nat} {d : ByteArray} (h : DOk n d) : Kd n d (stpOf d) := by
  obtain ⟨_, h⟩ := h
  have nat : ∀ a b : Int, b ≤ a → ∃ k : Nat, a = b + k := fun a b hab => ⟨(a - b).toNat, by omega⟩
  rcases h with h | ⟨h1, h2⟩ | ⟨h1, h2⟩ | ⟨h, h1, h2⟩ | ⟨h, h1, h2, h3, h4⟩ | ⟨h, h1, h2⟩
  · rw [stpOf, if_pos h]; exact .dot h
  · obtain ⟨k, hk⟩ := nat _ _ h1
    rw [stpOf, if_neg (by omega), if_pos ⟨h1, h2⟩, show byteI d 0 - 97 = (k : Int) by omega]
    exact .take k (by omega) hk
  · obtain ⟨k, hk⟩ := nat _ _ h1
    rw [stpOf, if_neg (by omega), if_neg (by omega), if_pos ⟨h1, h2⟩, show byteI d 0 - 65 = (k : Int) by omega]
    exact .give k (by omega) hk
  · obtain ⟨k, hk⟩ := nat _ _ h1
    rcases h with h | h
    · rw [stpOf, if_neg (by omega), if_neg (by omega), if_neg (by omega), if_pos h, show byteI d 1 - 117 = (k : Int) by omega]
      exact .set k (by omega) h hk
    · rw [stpOf, if_neg (by omega), if_neg (by omega), if_neg (by omega), if_neg (by omega), if_pos h, show byteI d 1 - 117 = (k : Int) by omega]
      exact .clear k (by omega) h hk
  · obtain ⟨k, hk⟩ := nat _ _ h1
    obtain ⟨q, hq⟩ := nat (byteI d 2) 48 (by omega)
    rw [stpOf, if_neg (by omega), if_neg (by omega), if_neg (by omega), if_neg (by omega), if_neg (by omega), if_pos h, show byteI d 1 - 117 = (k : Int) by omega, show byteI d 2 - 48 = (q : Int) by omega]
    exact .skip k q (by omega) (by omega) h hk hq
  · obtain ⟨k, hk⟩ := nat _ _ h1
    rcases h with h | h
    · rw [stpOf, if_neg (by omega), if_neg (by omega), if_neg (by omega), if_neg (by omega), if_neg (by omega), if_neg (by omega), if_neg (by omega), show byteI d 1 - 48 = (k : Int) by omega]
      exact .join k (by omega) h hk
    · rw [stpOf, if_neg (by omega), if_neg (by omega), if_neg (by omega), if_neg (by omega), if_neg (by omega), if_neg (by omega), if_pos h, show byteI d 1 - 48 = (k : Int) by omega]
      exact .start k (by omega) h hk

theorem Kd.sok {n : Nat} {d : ByteArray} {x : Stp} (h : Kd n d x) (hn : n ≤ 5) : SOk n x := by
  cases h <;> constructor <;> simp <;> omega

theorem progL_po {W : Wd} (G : W.Good) : PO (progL W) where
  l5 := by rw [progL_len]; exact G.n5
  sok := by
    intro l hl x hx
    rw [progL_len]
    simp only [progL, List.mem_map] at hl
    obtain ⟨l0, hl0, rfl⟩ := hl
    obtain ⟨d, hd, rfl⟩ := List.mem_map.1 hx
    obtain ⟨t, ht, rfl⟩ := List.getElem_of_mem hl0
    obtain ⟨j, hj, rfl⟩ := List.getElem_of_mem hd
    exact (stpOf_kd (G.dok t W.prog[t] j W.prog[t][j] (by simp [ht]) (by simp [hj]))).sok G.n5
  l12 := by
    intro l hl
    simp only [progL, List.mem_map] at hl
    obtain ⟨l0, hl0, rfl⟩ := hl
    obtain ⟨t, ht, rfl⟩ := List.getElem_of_mem hl0
    simpa using G.len t W.prog[t] (by simp [ht])

theorem look_sim {W : Wd} (G : W.Good) {t : Nat} (ht : t < W.prog.length) : lookM (progL W) (msOf W) t = (stateOf W t, waitsOf W t) := by
  obtain ⟨b, hb⟩ := get_some W.born t (by rw [G.ok.nb]; exact ht)
  obtain ⟨n, hn⟩ := get_some W.place t (by rw [G.ok.nl]; exact ht)
  obtain ⟨l, hl⟩ := get_some W.prog t ht
  have e1 := msOf_st G ht
  have e2 := msOf_pl G ht
  have e3 := progL_get W t
  rw [hb] at e1
  rw [hn] at e2
  rw [hl, Option.getD_some] at e3
  rw [lookM, e1, e2, e3, Option.getD_some]
  cases b with
  | false =>
    have hs : stateOf W t = 0 := by simp [stateOf, hb]
    rw [if_neg (by simp), waitsOf, hs]
    simp
  | true =>
    rw [if_pos rfl, List.getElem?_map]
    cases hd : l[n]? with
    | none =>
      have hs : stateOf W t = 4 := by simp [stateOf, hb, hn, hl, hd]
      rw [waitsOf, hs]; simp
    | some d =>
      have hs : stateOf W t = doSt W t d := by simp [stateOf, hb, hn, hl, hd]
      have hw : waitsOf W t = if stateOf W t = 2 then ownI (W.has[(byteI d 0 - 97).toNat]?.getD none) else if stateOf W t = 3 then byteI d 1 - 48 else -1 := by
        simp only [waitsOf, hn, hl, hd, Option.getD_some]
        cases W.has[(byteI d 0 - 97).toNat]?.getD none <;> rfl
      have hk := stpOf_kd (G.dok t l n d hl hd)
      rw [hw, hs]
      simp only [Option.map_some]
      generalize stpOf d = x at hk
      cases hk with
      | dot h => simp [lookStp, doSt, h]
      | take k hk6 h =>
        have hc : 97 ≤ byteI d 0 ∧ byteI d 0 ≤ 102 := by omega
        have hk' : (byteI d 0 - 97).toNat = k := by omega
        rw [doSt, if_pos hc, hk']
        simp only [lookStp, if_true, Int.toNat_natCast, msOf]
        cases ho : W.has[k]?.getD none with
        | none => simp [lookTake, lockSt]
        | some u => by_cases hu : u = t <;> simp [lookTake, lockSt, hu, ownI]
      | give k hk6 h =>
        have hc : ¬ (97 ≤ byteI d 0 ∧ byteI d 0 ≤ 102) := by omega
        have hc2 : 65 ≤ byteI d 0 ∧ byteI d 0 ≤ 70 := by omega
        have hk' : (byteI d 0 - 65).toNat = k := by omega
        rw [doSt, if_neg hc, if_pos hc2, hk']
        simp only [lookStp, Int.toNat_natCast, msOf]
        by_cases ho : W.has[k]?.getD none = some t <;> simp [fltIf, ho]
      | set k hk6 h h1 => simp [lookStp, doSt, h]
      | clear k hk6 h h1 => simp [lookStp, doSt, h]
      | skip k q hk6 hq h h1 h2 => simp [lookStp, doSt, h]
      | start u hu h h1 =>
        have hu' : (byteI d 1 - 48).toNat = u := by omega
        have e4 := msOf_st G hu
        simp only [lookStp, Int.toNat_natCast, e4, doSt, hu']
        by_cases ho : W.born[u]?.getD false = true <;> simp [fltIf, ho, h]
      | join u hu h h1 =>
        have hu' : (byteI d 1 - 48).toNat = u := by omega
        have hu2 : byteI d 1 - 48 = u := by omega
        have e4 := msOf_st G hu
        have e5 := msOf_pl G hu
        have e6 := progL_get W u
        obtain ⟨bu, hbu⟩ := get_some W.born u (by rw [G.ok.nb]; exact hu)
        obtain ⟨nu, hnu⟩ := get_some W.place u (by rw [G.ok.nl]; exact hu)
        obtain ⟨lu, hlu⟩ := get_some W.prog u hu
        have hle := G.pl u lu nu hlu hnu
        simp only [lookStp, Int.toNat_natCast, lookJoin, e4, e5, e6, doSt, hbu, hnu, hlu, Option.getD_some, overOf, h, hu2, List.length_map]
        cases bu with
        | false => simp
        | true =>
          by_cases hlt : lu.length ≤ nu
          · have : nu = lu.length := by omega
            simp [this]
          · have : ¬ nu = lu.length := by omega
            simp [hlt, this]

theorem set_left {α : Type} (a b : List α) (t : Nat) (x : α) (h : t < a.length) : (a ++ b).set t x = a.set t x ++ b := by
  rw [List.set_append, if_pos h]

theorem moveW_sim {W : Wd} (G : W.Good) {t n : Nat} {l : List ByteArray} {d : ByteArray} (A : At W t n l d) (ht : t < W.prog.length) (hs : ByteArray) :
    moveStp (progL W) (msOf W) t n (stpOf d) = msOf (moveW W t n l d hs) := by
  have hk := stpOf_kd (G.dok t l n d A.prog A.txt)
  have hp : ∀ m, (W.place ++ List.replicate (5 - W.prog.length) 0).set t m = W.place.set t m ++ List.replicate (5 - W.prog.length) 0 := fun m => set_left _ _ _ _ (by rw [G.ok.nl]; exact ht)
  have hst : ∀ u, u < W.prog.length → (W.born ++ List.replicate (5 - W.prog.length) false).set u true = W.born.set u true ++ List.replicate (5 - W.prog.length) false := fun u hu => set_left _ _ _ _ (by rw [G.ok.nb]; exact hu)
  have e3 := progL_get W t
  rw [A.prog, Option.getD_some] at e3
  generalize stpOf d = x at hk
  cases hk with
  | dot h => simp [moveStp, moveW, h, hp, msOf, stepped]
  | take k hk6 h =>
    have hc : 97 ≤ byteI d 0 ∧ byteI d 0 ≤ 102 := by omega
    have hk' : (byteI d 0 - 97).toNat = k := by omega
    rw [moveW, if_pos hc, hk']
    simp [moveStp, hp, msOf, stepped]
  | give k hk6 h =>
    have hc : ¬ (97 ≤ byteI d 0 ∧ byteI d 0 ≤ 102) := by omega
    have hc2 : 65 ≤ byteI d 0 ∧ byteI d 0 ≤ 70 := by omega
    have hk' : (byteI d 0 - 65).toNat = k := by omega
    rw [moveW, if_neg hc, if_pos hc2, hk']
    simp [moveStp, hp, msOf, stepped]
  | set k hk6 h h1 =>
    have hk' : (byteI d 1 - 117).toNat = k := by omega
    simp [moveStp, moveW, h, hp, msOf, stepped, hk']
  | clear k hk6 h h1 =>
    have hk' : (byteI d 1 - 117).toNat = k := by omega
    simp [moveStp, moveW, h, hp, msOf, stepped, hk']
  | skip k q hk6 hq h h1 h2 =>
    have hk' : (byteI d 1 - 117).toNat = k := by omega
    have hq' : (byteI d 2 - 48).toNat = q := by omega
    obtain ⟨o, ho⟩ := get_some W.set k (by rw [G.ok.ns]; exact hk6)
    cases o <;> simp [moveStp, moveW, h, hp, msOf, stepped, hk', hq', ho, e3]
  | start u hu h h1 =>
    have hu' : (byteI d 1 - 48).toNat = u := by omega
    simp [moveStp, moveW, h, hp, hst u hu, msOf, stepped, hu']
  | join u hu h h1 => simp [moveStp, moveW, h, hp, msOf, stepped]

theorem step_sim {W : Wd} (I : W.Inv) {t : Nat} (ht : t < W.prog.length) : stepM (progL W) (msOf W) t = if stateOf W t = 1 then some (msOf (moveT W t)) else none := by
  have G := I.good
  rw [stepM, if_pos (by rw [progL_len]; omega), Int.toNat_natCast, moveM, look_sim G ht]
  by_cases h1 : stateOf W t = 1
  · rw [if_pos h1, if_pos h1]
    obtain ⟨n, l, d, A, _⟩ := stateOf_at W t (by omega) (by omega) G ht
    rw [moveT_at A, progL_get, msOf_pl G ht, A.place, A.prog, Option.getD_some, Option.getD_some, List.getElem?_map, A.txt, Option.map_some, Option.map_some, moveW_sim G A ht]
  · rw [if_neg h1, if_neg h1]
theorem progL_move (W : Wd) (t : Nat) : progL (moveT W t) = progL W := by rw [progL, moveT_prog, progL]

theorem follow_sim (sch : ByteArray) : ∀ (n k : Nat) (W : Wd), sch.size - k = n → W.Inv → followM (progL W) sch (msOf W) k = (toLoop sch W k).map msOf := by
  intro n
  induction n with
  | zero => intro k W hk I; rw [followM_end (by omega), toLoop, if_neg (by omega)]; rfl
  | succ n ih =>
    intro k W hk I
    have hk' : k < sch.size := by omega
    rw [toLoop, if_pos hk']
    by_cases hc : 48 ≤ byteI sch k ∧ byteI sch k < 48 + W.prog.length
    · obtain ⟨t, htb⟩ : ∃ t : Nat, byteI sch k - 48 = t := ⟨(byteI sch k - 48).toNat, by omega⟩
      have ht : t < W.prog.length := by omega
      have hs := step_sim I ht
      have h5 := I.good.n5
      have htn : (byteI sch k - 48).toNat = t := by omega
      rw [htn]
      by_cases h1 : stateOf W t = 1
      · rw [if_pos ⟨hc.1, by omega, hc.2, h1⟩]
        rw [if_pos h1] at hs
        rw [followM_go hk' (by rw [htb]; exact hs), ← progL_move W t]
        exact ih (k + 1) _ (by omega) (moveT_inv I ht h1)
      · rw [if_neg (fun h => h1 h.2.2.2)]
        rw [if_neg h1] at hs
        rw [followM_no hk' (by rw [htb]; exact hs)]; rfl
    · rw [if_neg (fun h => hc ⟨h.1, h.2.2.1⟩), followM_no hk' (by rw [stepM, if_neg (by rw [progL_len]; omega)])]; rfl

theorem first_sim (ths : List ByteArray) (h1 : 1 ≤ ths.length) (h5 : ths.length ≤ 5) : firstM = msOf (beginW ths) := by
  have hl : (beginW ths).prog.length = ths.length := by simp [beginW, madeW]
  have e : msOf (beginW ths) = ⟨(List.range ths.length).map (fun i => decide (i = 0)) ++ List.replicate (5 - ths.length) false, List.replicate ths.length 0 ++ List.replicate (5 - ths.length) 0, List.replicate 6 none, List.replicate 6 false⟩ := by
    rw [msOf, hl]; rfl
  rw [e]
  generalize ths.length = m at *
  have : m = 1 ∨ m = 2 ∨ m = 3 ∨ m = 4 ∨ m = 5 := by omega
  rcases this with rfl | rfl | rfl | rfl | rfl <;> rfl

/-! Who may move, and how a run has ended. -/
theorem mayB_sim {W : Wd} (G : W.Good) {t : Nat} (ht : t < W.prog.length) : mayB (progL W) (msOf W) t = decide (stateOf W t = 1 ∨ stateOf W t = 5) := by rw [mayB, look_sim G ht]
theorem mayLoop_alive (W : Wd) : ∀ (n t : Nat) (l : List Nat), W.prog.length - t = n → (mayLoop W t l true).2 = true := by
  intro n
  induction n with
  | zero => intro t l hn; rw [mayLoop, if_neg (by omega)]
  | succ n ih => intro t l hn; rw [mayLoop, if_pos (by omega), Bool.true_or, Bool.true_or]; exact ih (t + 1) _ (by omega)
theorem movers_sim {W : Wd} (G : W.Good) : ∀ (n t : Nat) (al : Bool), W.prog.length - t = n → t ≤ W.prog.length → (mayLoop W t (moversL (progL W) (msOf W) t) al).1 = moversL (progL W) (msOf W) W.prog.length := by
  intro n
  induction n with
  | zero => intro t al hn ht; rw [mayLoop, if_neg (by omega), show t = W.prog.length by omega]
  | succ n ih =>
    intro t al hn ht
    have ht' : t < W.prog.length := by omega
    have hm := mayB_sim G ht'
    rw [mayLoop, if_pos ht']
    by_cases hc : stateOf W t = 1 ∨ stateOf W t = 5
    · rw [if_pos hc, ← moversL_yes (by rw [hm]; simpa using hc)]
      exact ih (t + 1) _ (by omega) (by omega)
    · rw [if_neg hc, ← moversL_no (by rw [hm]; simpa using hc)]
      exact ih (t + 1) _ (by omega) (by omega)
theorem stateOf_range (W : Wd) (t : Nat) : 0 ≤ stateOf W t ∧ stateOf W t ≤ 5 := by
  unfold stateOf doSt lockSt
  repeat' split
  all_goals decide
theorem end_sim {W : Wd} (G : W.Good) : ∀ (n t : Nat) (l : List Nat), W.prog.length - t = n → (∀ u, u < W.prog.length → stateOf W u ≠ 1 ∧ stateOf W u ≠ 5) → endL (progL W) (msOf W) t = if (mayLoop W t l false).2 = true then 2 else 1 := by
  intro n
  induction n with
  | zero => intro t l hn h; rw [endL, if_neg (by rw [progL_len]; omega), mayLoop, if_neg (show ¬ t < W.prog.length by omega)]; simp
  | succ n ih =>
    intro t l hn h
    have ht' : t < W.prog.length := by omega
    obtain ⟨n1, n5⟩ := h t ht'
    have hr := stateOf_range W t
    rw [endL, if_pos (by rw [progL_len]; omega), look_sim G ht', mayLoop, if_pos ht']
    by_cases hc : stateOf W t = 2 ∨ stateOf W t = 3
    · have e : (false || decide (stateOf W t = 2) || decide (stateOf W t = 3)) = true := by simpa using hc
      rw [if_pos (by simp only; omega), e, mayLoop_alive W n (t + 1) _ (by omega), if_pos rfl]
    · have e : (false || decide (stateOf W t = 2) || decide (stateOf W t = 3)) = false := by simpa using hc
      rw [if_neg (by simp only; omega), e]
      exact ih (t + 1) _ (by omega) h
end Go.Proofs.YtdfndcbakcmgiabDoor
