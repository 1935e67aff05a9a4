import Derived.Test.YtfdbnilopfnifaaT19
import Derived.Test.YtfdbnilopfnifaaP2
namespace Go.Proofs.Ytfdbnilopfnifaa
open Go.RowKit

theorem sameInts_len (a b : Option Addr) (ca cb n : Nat) (l : List Int) (hn : n = l.length) (hl : l.length ≤ maxLen) (w : World) (ha : IntsAt w a l) (hb : IntsAt w b l) :
    Calls Try.prog 30 #[.slice a n ca, .slice b n cb] w fun e w' => e = .returned (.bool true) ∧ Below w.heap.size w w' := by
  subst hn; exact sameInts_true a b ca cb l hl w ha hb
theorem grownBy_refl (w : World) (r : Option Nat) : w.grownBy w r := ⟨rfl, rfl, rfl, Nat.le_refl _, fun _ _ _ => rfl⟩
theorem grownBy_setCell {X w : World} {g : Nat} (h : X.grownBy w (some g)) (i : Nat) (u : Value) : X.grownBy (w.setCell ⟨g, i, none⟩ u) (some g) := by
  have hb := (Below.refl 0 w).setCell (p := ⟨g, i, none⟩) (Nat.zero_le _) u
  exact ⟨hb.os.trans h.os, hb.tape.trans h.tape, hb.output.trans h.output, Nat.le_trans h.size hb.size, fun k hk hne => (heap_setCell_other _ _ _ _ (by simpa using hne)).trans (h.block k hk hne)⟩
theorem IntsAt.grown {X w : World} {r : Option Nat} {a : Option Addr} {l : List Int} (h : IntsAt X a l) (hg : X.grownBy w r) (hne : ∀ p, a = some p → some p.block ≠ r) : IntsAt w a l := fun k x hx => by
  obtain ⟨g, o, rfl, hc⟩ := h k x hx
  refine ⟨g, o, rfl, ?_⟩
  rw [World.cell?_of_block (w := X) (a := ⟨g, o + k, none⟩) (hg.block g (World.block_lt_of_cell? X _ hc) (hne _ rfl))]
  exact hc
theorem intsAt_rowV {w : World} {B n c : Nat} {a : Option Addr} {L : List Nat} (hn : n = L.length) (h : w.ownsRow B 3 1 (.slice a n c) n (intV L)) : IntsAt w a (L.map fun (x : Nat) => (x : Int)) := fun k x hx => by
  subst hn
  rcases h.2 with ⟨h1, h2⟩ | ⟨g, cap, cur, h1, _⟩
  · have hk := (List.getElem?_eq_some_iff.1 hx).1
    simp at hk; omega
  · simp only [Value.slice.injEq] at h1
    obtain ⟨rfl, _, rfl⟩ := h1
    have hk : k < L.length := by have := (List.getElem?_eq_some_iff.1 hx).1; simpa using this
    refine ⟨g, 0, rfl, ?_⟩
    rw [Nat.zero_add, h.cellAt k (by omega)]
    simp only [List.getElem?_map, Option.map_eq_some_iff] at hx
    obtain ⟨y, hy, rfl⟩ := hx
    simp [intV, hy]
theorem own_block {w : World} {B n c : Nat} {a : Option Addr} {xs : List Value} (h : w.ownsRow B 3 1 (.slice a n c) n xs) : ∀ p, a = some p → B ≤ p.block ∧ p.block < w.heap.size := fun p hp => by
  subst hp
  exact h.lt p.block rfl

set_option maxRecDepth 100000 in
set_option maxHeartbeats 8000000 in
theorem Closes_walk (s sch : ByteArray) (hsch : sch.size ≤ maxLen) (a : Option Addr) (ca : Nat) (ev : List Int) (hl : ev.length ≤ 17592186044416) (w : World) (hA : IntsAt w a ev) :
    Calls Try.prog 8 #[.string s, .string sch, .slice a ev.length ca] w fun e w' => e = .returned (.bool true) ∧ Below w.heap.size w w' := by
  have hll : ev.length ≤ maxLen := by unfold maxLen; omega
  obtain ⟨L, x, hL60, hP, hQ⟩ := close_both s sch hsch ev hll
  obtain ⟨ev2, hev2⟩ : ∃ ev2, ev2 = ev ++ [-77, -77] := ⟨_, rfl⟩
  have hlen2 : ev2.length = ev.length + 2 := by rw [hev2]; simp
  have htk : ev2.take ev.length = ev := by rw [hev2]; simp
  have hHd := fun w hA => handed_any a ca ev hl w hA
  rw [← hev2, hlen2] at hHd
  have hInt : ∀ (w' : World) (g : Nat), w'.ownsRow g 3 1 (.slice (some ⟨g, 0, none⟩) (ev.length + 2) (ev.length + 2)) (ev.length + 2) (intZ ev2) → IntsAt w' (some ⟨g, 0, none⟩) ev2 := fun w' g h => by
    rw [← hlen2] at h
    exact intsAt_row h
  have n0 : (0 : Int) ≤ (ev.length : Int) := by omega
  have HL2 : Hid (ev2.length = ev.length + 2) := hlen2
  have HTK : Hid (ev2.take ev.length = ev) := htk
  clear hev2 hlen2 htk
  go_enter Try.func8, Try.ntmps8
  go_upto_region 3 with (first | (go_at_call 27; refine (hHd _ hA).mono ?_; rintro e w1 ⟨rfl, hb1, ho1⟩))
  go_upto_region 4 with (first | (go_at_call 27; refine (hHd _ (hA.below hb1)).mono ?_; rintro e w2 ⟨rfl, hb2, ho2⟩))
  have i1 := (hInt _ _ ho1).below hb2
  have i2 := hInt _ _ ho2
  have hl1 : w.heap.size < w1.heap.size := (ho1.lt w.heap.size rfl).2
  have hl2 : w1.heap.size < w2.heap.size := (ho2.lt w1.heap.size rfl).2
  have iT : IntsAt w2 (some ⟨w.heap.size, 0, none⟩) ev := by have := i1.take ev.length; rw [HTK.out] at this; exact this
  have hB2 := hb1.trans (hb2.mono hb1.size)
  have iA := hA.below hB2
  clear hHd hInt ho1 ho2 hA
  go_upto_region 5 with (first | (go_at_call 28; refine (hP _ _ _ _ rfl iT).mono ?_; rintro e w3 ⟨al, cl, rfl, hb3, ho3, hx3⟩))
  go_upto_region 6 with (first | (go_at_call 29; refine (hQ _ _ _ _ rfl (iA.below hb3)).mono ?_; rintro e w4 ⟨am, cm, rfl, hb4, ho4, hx4⟩))
  have j3 := (intsAt_rowV rfl ho3).below hb4
  have j4 := intsAt_rowV rfl ho4
  have bl := own_block ho3
  have bm := own_block ho4
  obtain ⟨Lz, hLz⟩ : ∃ Lz, (L.map fun (x : Nat) => (x : Int)) = Lz := ⟨_, rfl⟩
  have HLZ : Hid (L.length = Lz.length) := by rw [Hid, ← hLz]; simp
  have hLm : Lz.length ≤ maxLen := by rw [← HLZ.out]; unfold maxLen; omega
  have hIV : ∀ (w' : World) (B c : Nat) (z : Option Addr), w'.ownsRow B 3 1 (.slice z L.length c) L.length (intV L) → IntsAt w' z Lz := fun w' B c z h => by rw [← hLz]; exact intsAt_rowV rfl h
  rw [hLz] at j3 j4
  clear hLz
  have hE2 : ev2.length ≤ maxLen := by rw [HL2.out]; unfold maxLen; omega
  have hSL := fun w' ha hb => sameInts_len al am cl cm L.length Lz HLZ.out hLm w' ha hb
  have hSA := fun (z : Option Addr) (cz : Nat) w' ha hb => sameInts_len z am cz cm L.length Lz HLZ.out hLm w' ha hb
  have hSH := fun w' ha hb => sameInts_len (some ⟨w.heap.size, 0, none⟩) (some ⟨w1.heap.size, 0, none⟩) (ev.length + 2) (ev.length + 2) (ev.length + 2) ev2 HL2.out.symm hE2 w' ha hb
  have hB4 := hb3.trans (hb4.mono hb3.size)
  go_upto_region 7 with (first | (go_at_call 30; refine (hSL _ j3 j4).mono ?_; rintro e w5 ⟨rfl, hb5⟩))
  have hB5 := hB4.trans (hb5.mono hB4.size)
  go_upto_region 8 with (first | (go_at_call 30; refine (hSH _ (i1.below hB5) (i2.below hB5)).mono ?_; rintro e w6 ⟨rfl, hb6⟩))
  have hB6 := hB5.trans (hb6.mono hB5.size)
  have hB46 := hb5.trans (hb6.mono hb5.size)
  have j3' := j3.below hB46
  have j4' := j4.below hB46
  have o3' := (ho3.kept (grownBy_of_below hb4) (by cases hz : (Value.slice al L.length cl).ownBlock <;> simp)).kept (grownBy_of_below hB46) (by cases hz : (Value.slice al L.length cl).ownBlock <;> simp)
  have hsz3 : w2.heap.size ≤ w3.heap.size := hb3.size
  have hsz4 : w3.heap.size ≤ w4.heap.size := hb4.size
  have hsz6 : w4.heap.size ≤ w6.heap.size := hB46.size
  have hCl := hP w6 _ (ev.length + 2) _ rfl (iT.below hB6)
  have hBw6 := hB2.trans (hB6.mono hB2.size)
  clear hP hQ ho3 ho4 hb1 hb2 hb3 hb4 hb5 hb6 hB4 hB5 j3 j4 iA
  have key : (x != 0) = false ∨ ((x != 0) = true ∧ al = none) := by
    by_cases hx : x = 0
    · exact .inl (by simp [hx])
    · exact .inr ⟨by simpa using hx, hx3 hx⟩
  clear hx3 hx4
  go_cut [66] (fun v wc => v = .bool false ∧ wc = w6)
  case first =>
    rcases key with hx0 | ⟨hx1, hal⟩
    · go_wp2
      go_meet
      case rel => exact ⟨rfl, rfl⟩
    · subst hal
      go_wp2
      go_meet
      case rel => exact ⟨rfl, rfl⟩
  case rest =>
    obtain ⟨rfl, hwc⟩ := hcut
    have hwd := hwc.symm
    clear hwc
    subst hwd
    go_upto_region 11 with (first | (go_at_call 28; refine hCl.mono ?_; rintro e w7 ⟨aa, cc, rfl, hb7, ho7, hx7⟩))
    have o7 := o3'.kept (grownBy_of_below hb7) (by cases hz : (Value.slice al L.length cl).ownBlock <;> simp)
    have hform : (al = none ∧ cl = 0) ∨ ∃ g cur, al = some ⟨g, 0, none⟩ ∧ w7.heap[g]? = some (.cells cur 3 (0, 0)) ∧ cur.size = cl ∧ w2.heap.size ≤ g ∧ g < w3.heap.size ∧ cl ≤ maxLen := by
      rcases o7.2 with ⟨h1, _⟩ | ⟨g, cap, cur, h1, _, h3, _, h5, h6, _⟩
      · simp only [Value.slice.injEq] at h1
        exact .inl ⟨h1.1, h1.2.2⟩
      · simp only [Value.slice.injEq] at h1
        obtain ⟨rfl, _, rfl⟩ := h1
        obtain ⟨h7, h8⟩ := bl _ rfl
        exact .inr ⟨g, cur, rfl, h3, by omega, h7, h8, h5⟩
    have hlL : L.length ≤ cl := by
      rcases o7.2 with ⟨h1, h2⟩ | ⟨g, cap, cur, h1, _, _, h4, _⟩
      · omega
      · simp only [Value.slice.injEq] at h1
        omega
    have j7 := hIV _ _ _ _ ho7
    have b7 := own_block ho7
    have hsz7 : w6.heap.size ≤ w7.heap.size := hb7.size
    have j4'' := j4'.below hb7
    have i1' := (i1.below hB6).below hb7
    have i2' := (i2.below hB6).below hb7
    have hBw7 := hBw6.trans (hb7.mono hBw6.size)
    clear o3' o7 ho7 hIV hCl hx7 key j3' j4' i1 i2 iT
    go_cut [18] (fun v wc => v = .slice al cl cl ∧ wc = w7)
    case first =>
      rcases hform with ⟨h1, h2⟩ | ⟨g, cur, h1, _, _, _, _, hm⟩
      · subst h1 h2
        go_wp2
        go_meet
        case rel => exact ⟨rfl, rfl⟩
      · subst h1
        unfold maxLen at hm
        have c0 : (0 : Int) ≤ (cl : Int) := by omega
        go_wp2
        go_meet
        case rel => exact ⟨rfl, rfl⟩
    case rest =>
      obtain ⟨rfl, hwc⟩ := hcut
      have hwd := hwc.symm
      clear hwc
      subst hwd
      obtain ⟨bk, hbk, hbn⟩ : ∃ bk : Option Nat, (∀ p, al = some p → bk = some p.block) ∧ (∀ k, bk = some k → w2.heap.size ≤ k ∧ k < w3.heap.size) := by
        rcases hform with ⟨h1, _⟩ | ⟨g, cur, h1, _, _, h7, h8, _⟩
        · exact ⟨none, (fun p hp => by rw [h1] at hp; cases hp), (fun k hk => by cases hk)⟩
        · exact ⟨some g, (fun p hp => by rw [h1] at hp; cases hp; rfl), (fun k hk => by cases hk; exact ⟨h7, h8⟩)⟩
      go_wp2
      go_loopw [19] (fun i wr => ∃ k : Nat, k ≤ cl ∧ i = .int .i64 (k : Int) ∧ w7.grownBy wr bk ∧ (∀ g cur, al = some ⟨g, 0, none⟩ → w7.heap[g]? = some (.cells cur 3 (0, 0)) → ∃ cur', wr.heap[g]? = some (.cells cur' 3 (0, 0)) ∧ cur'.size = cur.size)) (fun i _ => cl - (intOf i).toNat)
      case atStart => exact ⟨0, Nat.zero_le _, rfl, grownBy_refl _ _, fun g cur _ h => ⟨cur, h, rfl⟩⟩
      case round =>
        obtain ⟨k, hk, rfl, hgr, hrow⟩ := hrel
        by_cases hkc : k < cl
        · rcases hform with ⟨_, h2⟩ | ⟨g, cur, h1, h3, h4, h7, h8, hm⟩
          · omega
          · have hbg := hbk _ h1
            simp only at hbg
            obtain ⟨cur', hc1, hc2⟩ := hrow g cur h1 h3
            subst h1 hbg
            have ck : wr.cell? ⟨g, k, none⟩ = some (cur'[k]'(by omega)) := cellB hc1 (by simp)
            have zk := frozen_of_row _ _ k _ _ hc1
            unfold maxLen at hm
            have k0 : (0 : Int) ≤ (k : Int) := by omega
            have kc : (k : Int) < (cl : Int) := by omega
            go_wp2
            go_roundw
            case rel =>
              refine ⟨k + 1, by omega, rfl, grownBy_setCell hgr k _, fun g2 cur2 e2 hh => ?_⟩
              simp only [Option.some.injEq, Addr.mk.injEq, and_true] at e2
              subst e2
              rw [h3] at hh
              cases hh
              exact ⟨_, heap_setCell_same _ _ k _ _ _ hc1, by simpa using hc2⟩
            case measure => (simp [intOf] <;> omega)
        · have kc : ¬ (k : Int) < (cl : Int) := by omega
          have nb : ∀ m, (m < w2.heap.size ∨ w3.heap.size ≤ m) → some m ≠ bk := fun m hm e => by have := hbn m e.symm; omega
          have i1r := i1'.grown hgr (fun p hp => by cases hp; exact nb _ (.inl (by simp; omega)))
          have i2r := i2'.grown hgr (fun p hp => by cases hp; exact nb _ (.inl (by simp; omega)))
          have jar := j7.grown hgr (fun p hp => nb _ (.inr (by have := (b7 p hp).1; omega)))
          have jmr := j4''.grown hgr (fun p hp => nb _ (.inr (bm p hp).1))
          have hBr : Below w.heap.size w wr := below_grown hBw7 hBw7.size hgr (fun m hm => by have := (hbn m hm).1; omega)
          clear hform hbk hrow i1' i2' j7 j4''
          go_upto_region 17 with (first | (go_at_call 30; refine (hSH _ i1r i2r).mono ?_; rintro e w8 ⟨rfl, hb8⟩))
          go_wp2_with (first | (go_at_call 30; refine (hSA _ _ _ (jar.below hb8) (jmr.below hb8)).mono ?_; rintro e w9 ⟨rfl, hb9⟩))
          go_ret
          have hB8 := hBr.trans (hb8.mono hBr.size)
          exact ⟨rfl, hB8.trans (hb9.mono hB8.size)⟩
end Go.Proofs.Ytfdbnilopfnifaa
namespace Go.Proofs.Ytfdbnilopfnifaa
open Go.RowKit

/-! Runs, as a relation. -/
def mayW (W : Wd) : List Nat := (mayLoop W 0 [] false).1
def aliveW (W : Wd) : Bool := (mayLoop W 0 [] false).2
def pickW (W : Wd) (p : ByteArray) (j : Nat) : Nat := (mayW W).getD ((byteI p j).toNat % (mayW W).length) 0

inductive RunsTo (p : ByteArray) : Wd → Nat → List Nat → Int → Wd → Prop
  | stop {W : Wd} {j : Nat} : mayW W = [] → RunsTo p W j [] (if aliveW W = true then 2 else 1) W
  | fault {W : Wd} {j : Nat} : mayW W ≠ [] → stateOf W (pickW W p j) = 5 → RunsTo p W j [] 3 W
  | move {W WE : Wd} {j : Nat} {ms : List Nat} {h : Int} : mayW W ≠ [] → stateOf W (pickW W p j) = 1 → pickW W p j < W.prog.length → RunsTo p (moveT W (pickW W p j)) (j + 1) ms h WE → RunsTo p W j (pickW W p j :: ms) h WE

theorem mayW_mem {W : Wd} {x : Nat} (h : x ∈ mayW W) : x < W.prog.length ∧ (stateOf W x = 1 ∨ stateOf W x = 5) := mayLoop_mem W _ 0 [] false rfl (by simp) x h
theorem pickW_mem {W : Wd} (p : ByteArray) (j : Nat) (h : mayW W ≠ []) : pickW W p j ∈ mayW W := by
  have hlp : 0 < (mayW W).length := List.length_pos_iff.2 h
  have hk : (byteI p j).toNat % (mayW W).length < (mayW W).length := Nat.mod_lt _ hlp
  have e : pickW W p j = (mayW W)[(byteI p j).toNat % (mayW W).length] := by simp [pickW, hk]
  rw [e]
  exact List.getElem_mem hk

theorem runs_ex (p : ByteArray) : ∀ (n : Nat) (W : Wd) (j : Nat), W.Inv → 60 - W.log.length = n → ∃ ms h WE, RunsTo p W j ms h WE := by
  intro n
  induction n with
  | zero =>
    intro W j I hn
    by_cases hm : mayW W = []
    · exact ⟨_, _, _, .stop hm⟩
    · obtain ⟨ht, hs⟩ := mayW_mem (pickW_mem p j hm)
      rcases hs with hs | hs
      · have I2 := moveT_inv I ht hs
        have := I2.small
        rw [moveT_log] at this
        have := I.small
        omega
      · exact ⟨_, _, _, .fault hm hs⟩
  | succ n ih =>
    intro W j I hn
    by_cases hm : mayW W = []
    · exact ⟨_, _, _, .stop hm⟩
    · obtain ⟨ht, hs⟩ := mayW_mem (pickW_mem p j hm)
      rcases hs with hs | hs
      · obtain ⟨ms, h, WE, hr⟩ := ih (moveT W (pickW W p j)) (j + 1) (moveT_inv I ht hs) (by rw [moveT_log]; omega)
        exact ⟨_, _, _, .move hm hs ht hr⟩
      · exact ⟨_, _, _, .fault hm hs⟩

theorem RunsTo.inv {p : ByteArray} {W WE : Wd} {j : Nat} {ms : List Nat} {h : Int} (r : RunsTo p W j ms h WE) (I : W.Inv) : WE.Inv ∧ WE.prog = W.prog ∧ WE.log.length = W.log.length + ms.length := by
  induction r with
  | stop _ => exact ⟨I, rfl, rfl⟩
  | fault _ _ => exact ⟨I, rfl, rfl⟩
  | move hm hs ht _ ih =>
    obtain ⟨h1, h2, h3⟩ := ih (moveT_inv I ht hs)
    refine ⟨h1, h2.trans (moveT_prog _ _), ?_⟩
    rw [h3, moveT_log, List.length_cons]; omega
theorem RunsTo.len {p : ByteArray} {W WE : Wd} {j : Nat} {ms : List Nat} {h : Int} (r : RunsTo p W j ms h WE) (I : W.Inv) : ms.length ≤ 60 := by
  obtain ⟨h1, _, h3⟩ := r.inv I
  have := h1.small
  omega
theorem RunsTo.resumeL {p : ByteArray} {W WE : Wd} {j : Nat} {ms : List Nat} {h : Int} (r : RunsTo p W j ms h WE) : ∀ (f : Nat) (o : List Nat), o.length = j → ms.length < f → resumeL p f W o = (o ++ ms, h) := by
  induction r with
  | stop hm =>
    intro f o ho hf
    obtain ⟨f, rfl⟩ : ∃ g, f = g + 1 := ⟨f - 1, by simp at hf; omega⟩
    rw [Go.Proofs.Ytfdbnilopfnifaa.resumeL, if_pos (show (mayLoop _ 0 [] false).1 = [] from hm), List.append_nil]; rfl
  | fault hm hs =>
    intro f o ho hf
    obtain ⟨f, rfl⟩ : ∃ g, f = g + 1 := ⟨f - 1, by simp at hf; omega⟩
    subst ho
    rw [Go.Proofs.Ytfdbnilopfnifaa.resumeL, if_neg (show ¬ (mayLoop _ 0 [] false).1 = [] from hm)]
    simp only [pickW, mayW] at hs
    rw [if_pos hs, List.append_nil]
  | @move W WE j ms h hm hs ht _ ih =>
    intro f o ho hf
    obtain ⟨f, rfl⟩ : ∃ g, f = g + 1 := ⟨f - 1, by simp at hf; omega⟩
    subst ho
    rw [Go.Proofs.Ytfdbnilopfnifaa.resumeL, if_neg (show ¬ (mayLoop _ 0 [] false).1 = [] from hm)]
    have hs' := hs
    simp only [pickW, mayW] at hs'
    rw [if_neg (by rw [hs']; decide)]
    have := ih f (o ++ [pickW W p o.length]) (by simp) (by simp at hf; omega)
    simp only [pickW, mayW] at this ⊢
    rw [this]
    simp

/-- The world behind some moves. -/
def goL (W : Wd) : List Nat → Option Wd
  | [] => some W
  | t :: ms => if t < W.prog.length ∧ stateOf W t = 1 then goL (moveT W t) ms else none
theorem goL_snoc : ∀ (ms : List Nat) (W : Wd) (t : Nat), goL W (ms ++ [t]) = (goL W ms).bind fun V => if t < V.prog.length ∧ stateOf V t = 1 then some (moveT V t) else none
  | [], W, t => by simp [goL]
  | a :: ms, W, t => by
    simp only [List.cons_append, goL]
    split
    · exact goL_snoc ms _ t
    · rfl
theorem goL_inv : ∀ (ms : List Nat) (W V : Wd), W.Inv → goL W ms = some V → V.Inv ∧ V.prog = W.prog
  | [], W, V, I, h => by simp only [goL, Option.some.injEq] at h; subst h; exact ⟨I, rfl⟩
  | a :: ms, W, V, I, h => by
    simp only [goL] at h
    split at h
    · rename_i hc
      obtain ⟨h1, h2⟩ := goL_inv ms _ V (moveT_inv I hc.1 hc.2) h
      exact ⟨h1, h2.trans (moveT_prog _ _)⟩
    · cases h
theorem RunsTo.goes {p : ByteArray} {W WE : Wd} {j : Nat} {ms : List Nat} {h : Int} (r : RunsTo p W j ms h WE) : goL W ms = some WE := by
  induction r with
  | stop _ => rfl
  | fault _ _ => rfl
  | move hm hs ht _ ih => rw [goL, if_pos ⟨ht, hs⟩]; exact ih
theorem RunsTo.small {p : ByteArray} {W WE : Wd} {j : Nat} {ms : List Nat} {h : Int} (r : RunsTo p W j ms h WE) (h5 : W.prog.length ≤ 5) : ∀ t ∈ ms, t < 5 := by
  induction r with
  | stop _ => simp
  | fault _ _ => simp
  | move hm hs ht _ ih =>
    intro t htm
    rcases List.mem_cons.1 htm with rfl | htm
    · omega
    · exact ih (by rw [moveT_prog]; exact h5) t htm
/-- From each of its states on a run goes on to the same end. -/
theorem RunsTo.rest {p : ByteArray} {W WE : Wd} {j : Nat} {ms : List Nat} {h : Int} (r : RunsTo p W j ms h WE) : ∀ k, k ≤ ms.length → ∃ V, goL W (ms.take k) = some V ∧ RunsTo p V (j + k) (ms.drop k) h WE := by
  induction r with
  | stop hm => intro k hk; simp at hk; subst hk; exact ⟨_, rfl, .stop hm⟩
  | fault hm hs => intro k hk; simp at hk; subst hk; exact ⟨_, rfl, .fault hm hs⟩
  | move hm hs ht hr ih =>
    intro k hk
    cases k with
    | zero => exact ⟨_, rfl, .move hm hs ht hr⟩
    | succ k =>
      obtain ⟨V, h1, h2⟩ := ih k (by simpa using hk)
      refine ⟨V, ?_, ?_⟩
      · rw [List.take_succ_cons, goL, if_pos ⟨ht, hs⟩]; exact h1
      · rw [List.drop_succ_cons, show ∀ a : Nat, a + (k + 1) = a + 1 + k from fun a => by omega]; exact h2
theorem RunsTo.shift {p q : ByteArray} {W WE : Wd} {i : Nat} {ms : List Nat} {h : Int} (r : RunsTo p W i ms h WE) : ∀ (j : Nat), (∀ a, byteI q (j + a) = byteI p (i + a)) → RunsTo q W j ms h WE := by
  induction r with
  | stop hm => intro j _; exact .stop hm
  | fault hm hs =>
    intro j hb
    have hb0 := hb 0
    refine .fault hm ?_
    simp only [Nat.add_zero] at hb0
    rw [pickW, hb0]; exact hs
  | @move W WE i ms h hm hs ht _ ih =>
    intro j hb
    have hb0 := hb 0
    simp only [Nat.add_zero] at hb0
    have e : pickW W q j = pickW W p i := by rw [pickW, hb0]; rfl
    rw [← e]
    refine .move hm (by rw [e]; exact hs) (by rw [e]; exact ht) ?_
    rw [e]
    exact ih (j + 1) (fun a => by have := hb (a + 1); rw [show j + 1 + a = j + (a + 1) by omega, show i + 1 + a = i + (a + 1) by omega]; exact this)
end Go.Proofs.Ytfdbnilopfnifaa
