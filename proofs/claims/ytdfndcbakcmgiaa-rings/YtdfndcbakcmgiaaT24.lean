import Derived.Test.YtdfndcbakcmgiaaT22
import Derived.Deep.AppendLies
namespace Go.Proofs.Ytdfndcbakcmgiaa
open Go.RowKit

theorem ownsRow_below {w w' : World} {B : Nat} {e : TypeId} {size n : Nat} {v : Value} {xs : List Value} (h : w.ownsRow B e size v n xs) (hb : Below w.heap.size w w') : w'.ownsRow B e size v n xs :=
  h.kept (grownBy_of_below hb) (by cases hv : v.ownBlock <;> simp)
abbrev rowAv (w : World) (B : Nat) (v : Value) (l : List Ak) : Prop := w.ownsRow B 42 5 v l.length (l.flatMap akCells)

set_option maxRecDepth 100000 in
set_option maxHeartbeats 8000000 in
theorem refasks_any (p : Nat) (W : Wd) (w : World) {gP cP gB cB gL cL gH cH gS cS : Nat} {aG : Option Addr} {cG : Nat} (h : WIn w p W gP cP gB cB gL cL gH cH gS cS aG cG) (I : W.Inv) (hL : LogOk W) :
    Calls Try.prog 59 #[.pointer (some ⟨p, 0, none⟩)] w fun e w' => ∃ v, e = .returned v ∧ Below w.heap.size w w' ∧ rowAv w' w.heap.size v (asksW W) := by
  have fG := h.fG
  have fP := h.fP
  have hsm := I.small
  have h5 := I.good.n5
  have hr0 := World.ownsRow_nil w w.heap.size 42 5
  go_enter Try.func59, Try.ntmps59
  go_wp2
  go_loopw [3, 4] (fun v i wr => ∃ t : Nat, t ≤ W.log.length ∧ i = .int .i64 (t : Int) ∧ rowAv wr w.heap.size v (asks1 W.log t) ∧ Below w.heap.size w wr) (fun _ i _ => W.log.length - (intOf i).toNat)
  case atStart => exact ⟨0, Nat.zero_le _, rfl, by simpa [rowAv, asks1] using hr0, Below.refl _ _⟩
  case round =>
    obtain ⟨t, ht, rfl, hown, hBr⟩ := hrel
    have fG' := cell_later hBr fG
    by_cases htl : t < W.log.length
    · obtain ⟨e, he⟩ := get_some W.log t htl
      obtain ⟨g, hg, hc⟩ := h.cG' (by intro hh; rw [hh] at htl; simp at htl)
      subst hg
      obtain ⟨d0, d1, d2, d3⟩ := hc t e he
      rw [Nat.mul_comm 4 t] at d0 d1 d2 d3
      have d0' := cell_later hBr d0
      have d1' := cell_later hBr d1
      have d2' := cell_later hBr d2
      have d3' := cell_later hBr d3
      have oe := hL e (List.mem_of_getElem? he)
      have hkd := stpOf_kd oe.dok
      have hsz1 : 1 ≤ e.txt.size := oe.dok.size
      have hd0 : 0 < e.txt.size := by omega
      have hbi := byteI_in hd0
      have hb0 := byteI_lo e.txt 0
      have hb9 := byteI_hi e.txt 0
      have t0 : (0 : Int) ≤ (t : Int) := by omega
      have tl : (t : Int) < (W.log.length : Int) := by omega
      have hal := asks1_len W.log t
      have HA : Hid (asks1 W.log (t + 1) = asks1 W.log t ++ (if takeB e = true then [askE e t] else [])) := by rw [Hid, asks1, he]; rfl
      have hszr := hBr.size
      have hBa := hBr.alloc hszr (.cells #[.int .i64 e.thread, .int .i64 e.place, .string e.txt, .string e.holds] 128)
      have hown1 := hown.alloc (.cells #[.int .i64 e.thread, .int .i64 e.place, .string e.txt, .string e.holds] 128)
      by_cases hlk : 97 ≤ byteI e.txt 0 ∧ byteI e.txt 0 ≤ 102
      · have h1 : (stpOf e.txt).kind = 1 := by
          generalize stpOf e.txt = x at hkd
          cases hkd with
          | take _ _ _ => rfl
          | _ => exfalso; omega
        rw [if_pos (by simp [takeB, h1])] at HA
        have e1 : atI ⟨#[97, 98, 99, 100, 101, 102]⟩ (byteI e.txt 0) = byteI e.txt 0 - 97 := by rw [atI_lock (by omega) (by omega), atR_yes (by omega) (by omega)]
        obtain ⟨eth, epl, etx, eho⟩ := e
        simp only [askE] at *
        clear hkd he hc h1 hL h d0 d1 d2 d3 oe
        go_wp2_with (first
          | (go_at_call 77; refine (at_n _ _ _ (by omega) (by omega) (by decide)).mono ?_; rintro e w2 ⟨rfl, hw⟩; have hw2 := hw.symm; clear hw; subst hw2)
          | (at_builtin; go_loud (refine wpList_appendLit _ rfl _ _ 37 rfl w.heap.size 42 (.agg #[.int .i64 0, .int .i64 0, .string ⟨#[]⟩, .string ⟨#[]⟩, .int .i64 0]) 5 56 Try.underlying37 infoAsk rfl (by decide) _ _ _ rfl hown1 _ _ (by simp) rfl rfl ?c2 ?c3 ?c4 ?c5 ?_)))
        case c2 => exact ⟨rfl, rfl, rfl, rfl, rfl⟩
        case c3 => omega
        case c4 => omega
        case c5 => simp; omega
        intro v' w3 ho3 hg3 hf3 hn3
        have hB3 : Below w.heap.size w w3 := below_grown (hBa.alloc hBa.size _) (by simp; omega) hg3 (fun k hk => (World.ownsRow.lt hown1 k hk).1)
        clear hg3 hf3 hn3 hown hown1
        go_wp2
        go_roundw
        case rel =>
          refine ⟨t + 1, by omega, rfl, ?_, hB3⟩
          rw [rowAv, HA.out]
          simpa [akCells] using ho3
        case measure => (simp [intOf] <;> omega)
      · have h1 : (stpOf e.txt).kind ≠ 1 := by
          generalize stpOf e.txt = x at hkd
          cases hkd with
          | take _ _ _ => exfalso; omega
          | _ => simp
        rw [if_neg (by simp [takeB, h1]), List.append_nil] at HA
        have e1 : atI ⟨#[97, 98, 99, 100, 101, 102]⟩ (byteI e.txt 0) = -1 := by rw [atI_lock (by omega) (by omega), atR_no (by omega)]
        obtain ⟨eth, epl, etx, eho⟩ := e
        simp only at *
        clear hkd he hc h1 hL h d0 d1 d2 d3 oe
        go_wp2_with (first
          | (go_at_call 77; refine (at_n _ _ _ (by omega) (by omega) (by decide)).mono ?_; rintro e w2 ⟨rfl, hw⟩; have hw2 := hw.symm; clear hw; subst hw2))
        go_roundw
        case rel => exact ⟨t + 1, by omega, rfl, by rw [rowAv, HA.out]; exact hown1, hBa⟩
        case measure => (simp [intOf] <;> omega)
    · have hte : t = W.log.length := by omega
      have tl : ¬ (t : Int) < (W.log.length : Int) := by omega
      subst hte
      have hal := asks1_len W.log W.log.length
      generalize hal0 : asks1 W.log W.log.length = al at *
      have HAL : Hid (asks1 W.log W.log.length = al) := hal0
      clear hal0
      go_wp2
      go_loopw [3, 6] (fun v i wr => ∃ u : Nat, u ≤ W.prog.length ∧ i = .int .i64 (u : Int) ∧ rowAv wr w.heap.size v (al ++ (wantsE W u).map fun e => askE e (-1)) ∧ Below w.heap.size w wr) (fun _ i _ => W.prog.length - (intOf i).toNat)
      case atStart => exact ⟨0, Nat.zero_le _, rfl, by simpa [rowAv, wantsE] using hown, hBr⟩
      case round =>
        clear hown hBr fG'
        obtain ⟨u, hu, rfl, hown, hBr⟩ := hrel
        have hWr := h.below hBr
        have fP' := hWr.fP
        by_cases hun : u < W.prog.length
        · have ul : (u : Int) < (W.prog.length : Int) := by omega
          have u0 : (0 : Int) ≤ (u : Int) := by omega
          have hSt := State_any p u W wr hWr I.good hun _ rfl
          by_cases h2 : stateOf W u = 2
          · obtain ⟨n, l, d, A, hst⟩ := stateOf_at W u (by omega) (by omega) I.good hun
            have HTH : Hid (wantsE W (u + 1) = wantsE W u ++ [evAt W u]) := wantsE_yes h2
            have hev : evAt W u = ⟨u, n, d, holdsOf W u⟩ := by simp [evAt, A.prog, A.place, A.txt]
            rw [hev] at HTH
            have hHo := fun w' hw => Holds_any p u W w' (WIn.below hWr hw) I.good hun _ rfl
            rw [h2] at hSt
            obtain ⟨a0, c0, q1, q2⟩ := h.cP' u l A.prog
            have hnl : n < l.length := (List.getElem?_eq_some_iff.1 A.txt).1
            obtain ⟨g0, rfl, q3⟩ := q2 (by intro hh; rw [hh] at hnl; simp at hnl)
            have q4 := q3 n d A.txt
            have fL' := h.fL
            have fPw := h.fP
            have q5 := h.cL' u n A.place
            have n0 : (0 : Int) ≤ (n : Int) := by omega
            have nl : (n : Int) < (l.length : Int) := by omega
            have upl : (u : Int) < (W.place.length : Int) := by rw [I.good.ok.nl]; exact ul
            have hwl := wantsE_len W u
            have hlen : (al ++ (wantsE W u).map fun e => askE e (-1)).length ≤ 1000 := by simp; omega
            obtain ⟨i0, hi0, hz0, hz1, hz2⟩ := info_split infoAsk
            generalize hhs : holdsOf W u = hs at *
            generalize hbl : (al ++ (wantsE W u).map fun e => askE e (-1)) = bl at *
            have HBL : Hid ((al ++ (wantsE W (u + 1)).map fun e => askE e (-1)) = bl ++ [⟨u, n, d, hs, -1⟩]) := by rw [Hid, HTH.out, List.map_append, ← List.append_assoc, hbl]; rfl
            clear hev hhs hbl hst h2 q2 q3 A hL h
            go_upto_region 14 with (first
              | (go_at_call 50; refine hSt.mono ?_; rintro e w2 ⟨rfl, hb2⟩)
              | (go_at_call 79; refine (hHo _ hb2).mono ?_; rintro e w3 ⟨rfl, hb3⟩))
            have hB3 := hb2.trans (hb3.mono hb2.size)
            have hown3 := ownsRow_below hown hB3
            have hBw3 := hBr.trans (hB3.mono hBr.size)
            have hsz3 := hBw3.size
            clear fP' hSt hHo hown hb2 hb3 hWr
            go_region_held3 (fun w' => w'.cell? ⟨p, 0, none⟩ = some (.slice (some ⟨gP, 0, none⟩) W.prog.length cP) ∧ w'.cell? ⟨p, 2, none⟩ = some (.slice (some ⟨gL, 0, none⟩) W.place.length cL) ∧ w'.cell? ⟨gP, u, none⟩ = some (.slice (some ⟨g0, 0, none⟩) l.length c0) ∧ w'.cell? ⟨g0, n, none⟩ = some (.string d) ∧ w'.cell? ⟨gL, u, none⟩ = some (.int .i64 (n : Int)))
              (refine ⟨cell_later ?_ fPw, cell_later ?_ fL', cell_later ?_ q1, cell_later ?_ q4, cell_later ?_ q5⟩ <;> first | exact hBw3 | exact hBw3.drew | exact hBw3.alloc hsz3 _ | exact (hBw3.alloc hsz3 _).drew | exact hBw3.drew.alloc hsz3 _ | exact hB4)
              (first | (refine step_append_lies _ (by rfl) _ _ _ (by rfl) w.heap.size 42 i0 _ 5 56 Try.underlying37 hi0 hz0 hz1 hz2 rfl (by omega) _ bl.length (bl.flatMap akCells) (by rfl) ((hown3.alloc _).drew) ⟨w3.heap.size, 0, none⟩ 1 1 [.int .i64 u, .int .i64 n, .string d, .string hs, .int .i64 (-1)] (by rfl) (by rfl) (World.news_of_block (cs := #[.int .i64 u, .int .i64 n, .string d, .string hs, .int .i64 (-1)]) (t := 42) (fr := (0, 0)) (heap_alloc_new w3 _)) (by simp [Value.oneCell']) (by omega) (by unfold maxLen; omega) (by omega) (by simp; omega) (w3.heap.size + 1) (by simp) ?_; intro gg cap w4 hown4 hgrow hat hlt; have hB4 : Below w.heap.size w w4 := ((hBw3.alloc hsz3 _).drew.grown hgrow (by simp; omega) (fun k hk => (World.ownsRow.lt hown3 k hk).1))))
            all_goals
              go_wp2_with fail
              go_roundw
              case rel =>
                refine ⟨u + 1, by omega, rfl, ?_, hB4⟩
                rw [rowAv, HBL.out]
                simpa [akCells] using hown4
              case measure => (simp [intOf] <;> omega)
          · have HTH : Hid (wantsE W (u + 1) = wantsE W u) := wantsE_no h2
            have hb2 : (stateOf W u == 2) = false := beq_false_of_ne h2
            generalize stateOf W u = st at *
            clear h2 hWr
            go_wp2_with (first | (go_at_call 50; refine hSt.mono ?_; rintro e w2 ⟨rfl, hb2'⟩))
            go_roundw
            case rel =>
              have ho2 := ownsRow_below hown hb2'
              exact ⟨u + 1, by omega, rfl, by rw [rowAv, HTH.out]; exact ho2, hBr.trans (hb2'.mono hBr.size)⟩
            case measure => (simp [intOf] <;> omega)
        · have hue : u = W.prog.length := by omega
          have ul : ¬ (u : Int) < (W.prog.length : Int) := by omega
          subst hue
          have HD : Hid (asksW W = al ++ (wantsE W W.prog.length).map fun e => askE e (-1)) := by rw [Hid, asksW, HAL.out, asks2, List.take_length]
          go_wp2
          go_ret
          exact ⟨_, rfl, hBr, by rw [rowAv, HD.out]; exact hown⟩
end Go.Proofs.Ytdfndcbakcmgiaa
namespace Go.Proofs.Ytdfndcbakcmgiaa
open Go.RowKit

theorem refAsks_bad (s sch : ByteArray) (x : Int) (hx : x ≠ 0) (w : World) (hwd : ∀ w, Calls Try.prog 49 #[.string s, .string sch] w fun e w' => e = .returned (.tuple #[.pointer none, .int .i64 x]) ∧ Below w.heap.size w w') :
    Calls Try.prog 23 #[.string s, .string sch] w fun e w' => e = .returned (.tuple #[.slice none 0 0, .int .i64 x]) ∧ Below w.heap.size w w' := by
  have hb : (x != 0) = true := by simpa using hx
  go_enter Try.func23, Try.ntmps23
  go_wp2_with (first | (go_at_call 49; refine (hwd _).mono ?_; rintro e w1 ⟨rfl, hB1⟩))
  go_ret2
  exact ⟨rfl, hB1⟩
set_option maxRecDepth 100000 in
set_option maxHeartbeats 2000000 in
theorem refAsks_ok (s sch : ByteArray) (hsch : sch.size ≤ maxLen) (w : World) (h0 : (ckP s).1 = 0) (W : Wd) (hW : toLoop sch (beginW (thLoop s 0 0 [])) 0 = some W) :
    Calls Try.prog 23 #[.string s, .string sch] w fun e w' => ∃ v, e = .returned (.tuple #[v, .int .i64 0]) ∧ Below w.heap.size w w' ∧ rowAv w' w.heap.size v (asksW W) := by
  have I0 := begin_inv s h0
  have hwd := fun w => world_ok s sch w h0 (ckP_zero s h0).1 hsch I0 W hW
  have hLO := toLoop_logOk sch _ 0 _ W rfl I0 (begin_logOk _) hW
  clear h0 hW I0
  go_enter Try.func23, Try.ntmps23
  go_upto_region 4 with (first | (go_at_call 49; refine (hwd _).mono ?_; rintro e w1 ⟨p, rfl, hB1, hR1, I1⟩; clear hwd))
  obtain ⟨gP, cP, gB, cB, gL, cL, gH, cH, gS, cS, aG, cG, hWi⟩ := hR1.wIn I1.good.ok
  have hA := refasks_any p W w1 hWi I1 hLO
  clear hWi
  go_wp2_with (first | (go_at_call 59; refine hA.mono ?_; rintro e w2 ⟨v, rfl, hb2, ho2⟩))
  go_ret2
  exact ⟨v, rfl, hB1.trans (hb2.mono hB1.size), ownsRow_mono (B := w1.heap.size) (B' := w.heap.size) ho2 hB1.size⟩

/-- Asks as they are read: row by row. -/
def AksAt (w : World) (a : Option Addr) (l : List Ak) : Prop := ∀ (k : Nat) (x : Ak), l[k]? = some x → ∃ g, a = some ⟨g, 0, none⟩ ∧ w.cell? ⟨g, k * 5, none⟩ = some (.int .i64 x.th) ∧ w.cell? ⟨g, k * 5 + 1, none⟩ = some (.int .i64 x.pl) ∧ w.cell? ⟨g, k * 5 + 2, none⟩ = some (.string x.lock) ∧ w.cell? ⟨g, k * 5 + 3, none⟩ = some (.string x.holds) ∧ w.cell? ⟨g, k * 5 + 4, none⟩ = some (.int .i64 x.at')
theorem AksAt.below {w w' : World} {a : Option Addr} {l : List Ak} (h : AksAt w a l) (hb : Below w.heap.size w w') : AksAt w' a l := fun k x hx => by
  obtain ⟨g, e, c0, c1, c2, c3, c4⟩ := h k x hx
  exact ⟨g, e, cell_later hb c0, cell_later hb c1, cell_later hb c2, cell_later hb c3, cell_later hb c4⟩
theorem flat_ak : ∀ (l : List Ak) (j : Nat) (x : Ak), l[j]? = some x → ∀ i v, (akCells x)[i]? = some v → (l.flatMap akCells)[j * 5 + i]? = some v
  | [], _, _, h => by simp at h
  | a :: l, 0, e, h => by
    simp at h; subst h
    intro i v hv
    rw [Nat.zero_mul, Nat.zero_add, List.flatMap_cons, List.getElem?_append_left (List.getElem?_eq_some_iff.1 hv).1]
    exact hv
  | a :: l, j + 1, e, h => by
    intro i v hv
    have := flat_ak l j e (by simpa using h) i v hv
    have h6 : (akCells a).length = 5 := rfl
    rw [List.flatMap_cons, List.getElem?_append_right (by rw [h6]; omega), h6, show (j + 1) * 5 + i - 5 = j * 5 + i by omega]
    exact this
theorem aksAt_row {w : World} {B n c : Nat} {a : Option Addr} {l : List Ak} (hn : n = l.length) (h : w.ownsRow B 42 5 (.slice a n c) n (l.flatMap akCells)) : AksAt w a l := fun k x hx => by
  subst hn
  have hk := (List.getElem?_eq_some_iff.1 hx).1
  rcases h.2 with ⟨h1, h2⟩ | ⟨g, cap, cur, h1, _⟩
  · omega
  · simp only [Value.slice.injEq] at h1
    obtain ⟨rfl, _, rfl⟩ := h1
    have c := fun i v hv => flat_ak l k x hx i v hv
    exact ⟨g, rfl, by rw [h.cellAt _ (by omega)]; exact c 0 _ rfl, by rw [h.cellAt _ (by omega)]; exact c 1 _ rfl, by rw [h.cellAt _ (by omega)]; exact c 2 _ rfl, by rw [h.cellAt _ (by omega)]; exact c 3 _ rfl, by rw [h.cellAt _ (by omega)]; exact c 4 _ rfl⟩

set_option maxRecDepth 100000 in
set_option maxHeartbeats 4000000 in
theorem sameAsks_true (a b : Option Addr) (ca cb : Nat) (l : List Ak) (hl : l.length ≤ 1000) (w : World) (ha : AksAt w a l) (hb : AksAt w b l) :
    Calls Try.prog 24 #[.slice a l.length ca, .slice b l.length cb] w fun e w' => e = .returned (.bool true) ∧ Below w.heap.size w w' := by
  go_enter Try.func24, Try.ntmps24
  go_wp2
  go_loopw [5] (fun x wr => ∃ k : Nat, k ≤ l.length ∧ x = .int .i64 (k : Int) ∧ Below w.heap.size w wr) (fun x _ => l.length - (intOf x).toNat)
  case atStart => exact ⟨0, Nat.zero_le _, rfl, Below.refl _ _⟩
  case round =>
    obtain ⟨k, hk, rfl, hBr⟩ := hrel
    by_cases hkl : k < l.length
    · obtain ⟨x, hx⟩ := get_some l k hkl
      obtain ⟨g1, e1, c10, c11, c12, c13, c14⟩ := (ha.below hBr) k x hx
      obtain ⟨g2, e2, c20, c21, c22, c23, c24⟩ := (hb.below hBr) k x hx
      subst e1 e2
      obtain ⟨th, pl, lk, ho, at'⟩ := x
      simp only at c10 c11 c12 c13 c14 c20 c21 c22 c23 c24
      have k0 : (0 : Int) ≤ (k : Int) := by omega
      have kl : (k : Int) < (l.length : Int) := by omega
      have ka := (Below.refl wr.heap.size wr).alloc (Nat.le_refl _) (.cells #[.int .i64 th, .int .i64 pl, .string lk, .string ho, .int .i64 at'] 42)
      have c20' := cell_later ka c20
      have c21' := cell_later ka c21
      have c22' := cell_later ka c22
      have c23' := cell_later ka c23
      have c24' := cell_later ka c24
      clear hx ha hb c20 c21 c22 c23 c24
      go_wp2
      go_roundw
      case rel => exact ⟨k + 1, by omega, rfl, hBr.trans ((two_new (Below.refl _ _)).2.2.1.mono hBr.size)⟩
      case measure => (simp [intOf] <;> omega)
    · have kl : ¬ (k : Int) < (l.length : Int) := by omega
      go_wp2
      go_ret
      exact ⟨rfl, hBr⟩

/-- One answer of Asks. -/
def AsP (l : List Ak) (x : Int) (w : World) (e : Ending) (w' : World) : Prop :=
  ∃ a c, e = .returned (.tuple #[.slice a l.length c, .int .i64 x]) ∧ Below w.heap.size w w' ∧ w'.ownsRow w.heap.size 42 5 (.slice a l.length c) l.length (l.flatMap akCells) ∧ (x ≠ 0 → a = none)
theorem asP_nil {x : Int} {w w' : World} {e : Ending} (he : e = .returned (.tuple #[.slice none 0 0, .int .i64 x])) (hb : Below w.heap.size w w') : AsP [] x w e w' :=
  ⟨none, 0, he, hb, World.ownsRow_nil _ _ _ _, fun _ => rfl⟩
theorem asks_both (s sch : ByteArray) (hsch : sch.size ≤ maxLen) : ∃ (l : List Ak) (x : Int), l.length ≤ 100 ∧
    (∀ w : World, Calls Try.prog 22 #[.string s, .string sch] w fun e w' => AsP l x w e w') ∧
    (∀ w : World, Calls Try.prog 23 #[.string s, .string sch] w fun e w' => AsP l x w e w') := by
  by_cases h : (ckP s).1 ≠ 0
  · refine ⟨[], (ckP s).1, by simp, fun w => ?_, fun w => ?_⟩
    · exact (asks_bad s sch _ h w (fun w => traceOf_err s sch w h)).mono fun e w' ⟨he, hb⟩ => asP_nil he hb
    · exact (refAsks_bad s sch _ h w (fun w => world_err s sch w h)).mono fun e w' ⟨he, hb⟩ => asP_nil he hb
  · have h0 : (ckP s).1 = 0 := by omega
    cases hW : toLoop sch (beginW (thLoop s 0 0 [])) 0 with
    | none =>
      refine ⟨[], 5, by simp, fun w => ?_, fun w => ?_⟩
      · exact (asks_bad s sch 5 (by decide) w (fun w => traceOf_none s sch hsch w h0 hW)).mono fun e w' ⟨he, hb⟩ => asP_nil he hb
      · exact (refAsks_bad s sch 5 (by decide) w (fun w => world_none s sch w h0 (ckP_zero s h0).1 hsch (begin_inv s h0) hW)).mono fun e w' ⟨he, hb⟩ => asP_nil he hb
    | some W =>
      have I := (toLoop_inv sch _ 0 _ W rfl (begin_inv s h0) hW).1
      refine ⟨asksW W, 0, ?_, fun w => ?_, fun w => ?_⟩
      · have h1 := asks1_len W.log W.log.length
        have h2 := asks2_len (wantsE W W.prog.length) (wantsE W W.prog.length).length
        have h3 := wantsE_len W W.prog.length
        have h4 := I.small
        have h5 := I.good.n5
        rw [asksW, List.length_append]; omega
      · refine (asks_ok s sch hsch w h0 W hW).mono ?_
        rintro e w' ⟨g, c, he, hb, ho⟩
        exact ⟨_, c, he, hb, ho, fun hx => absurd rfl hx⟩
      · refine (refAsks_ok s sch hsch w h0 W hW).mono ?_
        rintro e w' ⟨v, he, hb, ho⟩
        have hf : ∃ a c, v = .slice a (asksW W).length c := by
          rcases ho.2 with ⟨h1, h2⟩ | ⟨g, cap, _, h1, _⟩
          · exact ⟨none, 0, by rw [h1, h2]⟩
          · exact ⟨_, cap, h1⟩
        obtain ⟨a, c, rfl⟩ := hf
        exact ⟨a, c, he, hb, ho, fun hx => absurd rfl hx⟩
end Go.Proofs.Ytdfndcbakcmgiaa
