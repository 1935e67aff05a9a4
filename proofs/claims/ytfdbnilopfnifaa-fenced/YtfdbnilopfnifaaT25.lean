import Derived.Test.YtfdbnilopfnifaaT23
import Derived.Test.YtfdbnilopfnifaaS1
namespace Go.Proofs.Ytfdbnilopfnifaa
open Go.RowKit

theorem refAsks_bad (s sch : ByteArray) (x : Int) (hx : x ≠ 0) (w : World) (hwd : ∀ w, Calls Try.prog 49 #[.string s, .string sch] w fun e w' => e = .returned (.tuple #[.pointer none, .int .i64 x]) ∧ Below w.heap.size w w') :
    Calls Try.prog 23 #[.string s, .string sch] w fun e w' => e = .returned (.tuple #[.slice none 0 0, .int .i64 x]) ∧ Below w.heap.size w w' := by
  have hb : (x != 0) = true := by simpa using hx
  go_enter Try.func23, Try.ntmps23
  go_wp2_with (first | (go_at_call 49; refine (hwd _).mono ?_; rintro e w1 ⟨rfl, hB1⟩))
  go_ret2
  exact ⟨rfl, hB1⟩
set_option maxRecDepth 100000 in
set_option maxHeartbeats 2000000 in
theorem refAsks_ok (s sch : ByteArray) (hsch : sch.size ≤ maxLen) (w : World) (h0 : (ckP s).1 = 0) (W : Wd) (hW : toLoop sch (beginW (thLoop s 0 0 [])) 0 = some W) :
    Calls Try.prog 23 #[.string s, .string sch] w fun e w' => ∃ v, e = .returned (.tuple #[v, .int .i64 0]) ∧ Below w.heap.size w w' ∧ rowAv w' w.heap.size v (asksW W) := by
  have I0 := begin_inv s h0
  have hwd := fun w => world_ok s sch w h0 (ckP_zero s h0).1 hsch I0 W hW
  have hLO := toLoop_logOk sch _ 0 _ W rfl I0 (begin_logOk _) hW
  clear h0 hW I0
  go_enter Try.func23, Try.ntmps23
  go_upto_region 4 with (first | (go_at_call 49; refine (hwd _).mono ?_; rintro e w1 ⟨p, rfl, hB1, hR1, I1⟩; clear hwd))
  obtain ⟨gP, cP, gB, cB, gL, cL, gH, cH, gS, cS, aG, cG, hWi⟩ := hR1.wIn I1.good.ok
  have hA := refasks_any p W w1 hWi I1 hLO
  clear hWi
  go_wp2_with (first | (go_at_call 59; refine hA.mono ?_; rintro e w2 ⟨v, rfl, hb2, ho2⟩))
  go_ret2
  exact ⟨v, rfl, hB1.trans (hb2.mono hB1.size), ownsRow_mono (B := w1.heap.size) (B' := w.heap.size) ho2 hB1.size⟩

/-- Asks as they are read: row by row. -/
def AksAt (w : World) (a : Option Addr) (l : List Ak) : Prop := ∀ (k : Nat) (x : Ak), l[k]? = some x → ∃ g, a = some ⟨g, 0, none⟩ ∧ w.cell? ⟨g, k * 5, none⟩ = some (.int .i64 x.th) ∧ w.cell? ⟨g, k * 5 + 1, none⟩ = some (.int .i64 x.pl) ∧ w.cell? ⟨g, k * 5 + 2, none⟩ = some (.string x.lock) ∧ w.cell? ⟨g, k * 5 + 3, none⟩ = some (.string x.holds) ∧ w.cell? ⟨g, k * 5 + 4, none⟩ = some (.int .i64 x.at')
theorem AksAt.below {w w' : World} {a : Option Addr} {l : List Ak} (h : AksAt w a l) (hb : Below w.heap.size w w') : AksAt w' a l := fun k x hx => by
  obtain ⟨g, e, c0, c1, c2, c3, c4⟩ := h k x hx
  exact ⟨g, e, cell_later hb c0, cell_later hb c1, cell_later hb c2, cell_later hb c3, cell_later hb c4⟩
theorem flat_ak : ∀ (l : List Ak) (j : Nat) (x : Ak), l[j]? = some x → ∀ i v, (akCells x)[i]? = some v → (l.flatMap akCells)[j * 5 + i]? = some v
  | [], _, _, h => by simp at h
  | a :: l, 0, e, h => by
    simp at h; subst h
    intro i v hv
    rw [Nat.zero_mul, Nat.zero_add, List.flatMap_cons, List.getElem?_append_left (List.getElem?_eq_some_iff.1 hv).1]
    exact hv
  | a :: l, j + 1, e, h => by
    intro i v hv
    have := flat_ak l j e (by simpa using h) i v hv
    have h6 : (akCells a).length = 5 := rfl
    rw [List.flatMap_cons, List.getElem?_append_right (by rw [h6]; omega), h6, show (j + 1) * 5 + i - 5 = j * 5 + i by omega]
    exact this
theorem aksAt_row {w : World} {B n c : Nat} {a : Option Addr} {l : List Ak} (hn : n = l.length) (h : w.ownsRow B 42 5 (.slice a n c) n (l.flatMap akCells)) : AksAt w a l := fun k x hx => by
  subst hn
  have hk := (List.getElem?_eq_some_iff.1 hx).1
  rcases h.2 with ⟨h1, h2⟩ | ⟨g, cap, cur, h1, _⟩
  · omega
  · simp only [Value.slice.injEq] at h1
    obtain ⟨rfl, _, rfl⟩ := h1
    have c := fun i v hv => flat_ak l k x hx i v hv
    exact ⟨g, rfl, by rw [h.cellAt _ (by omega)]; exact c 0 _ rfl, by rw [h.cellAt _ (by omega)]; exact c 1 _ rfl, by rw [h.cellAt _ (by omega)]; exact c 2 _ rfl, by rw [h.cellAt _ (by omega)]; exact c 3 _ rfl, by rw [h.cellAt _ (by omega)]; exact c 4 _ rfl⟩

set_option maxRecDepth 100000 in
set_option maxHeartbeats 4000000 in
theorem sameAsks_true (a b : Option Addr) (ca cb : Nat) (l : List Ak) (hl : l.length ≤ 1000) (w : World) (ha : AksAt w a l) (hb : AksAt w b l) :
    Calls Try.prog 24 #[.slice a l.length ca, .slice b l.length cb] w fun e w' => e = .returned (.bool true) ∧ Below w.heap.size w w' := by
  go_enter Try.func24, Try.ntmps24
  go_wp2
  go_loopw [5] (fun x wr => ∃ k : Nat, k ≤ l.length ∧ x = .int .i64 (k : Int) ∧ Below w.heap.size w wr) (fun x _ => l.length - (intOf x).toNat)
  case atStart => exact ⟨0, Nat.zero_le _, rfl, Below.refl _ _⟩
  case round =>
    obtain ⟨k, hk, rfl, hBr⟩ := hrel
    by_cases hkl : k < l.length
    · obtain ⟨x, hx⟩ := get_some l k hkl
      obtain ⟨g1, e1, c10, c11, c12, c13, c14⟩ := (ha.below hBr) k x hx
      obtain ⟨g2, e2, c20, c21, c22, c23, c24⟩ := (hb.below hBr) k x hx
      subst e1 e2
      obtain ⟨th, pl, lk, ho, at'⟩ := x
      simp only at c10 c11 c12 c13 c14 c20 c21 c22 c23 c24
      have k0 : (0 : Int) ≤ (k : Int) := by omega
      have kl : (k : Int) < (l.length : Int) := by omega
      have ka := (Below.refl wr.heap.size wr).alloc (Nat.le_refl _) (.cells #[.int .i64 th, .int .i64 pl, .string lk, .string ho, .int .i64 at'] 42)
      have c20' := cell_later ka c20
      have c21' := cell_later ka c21
      have c22' := cell_later ka c22
      have c23' := cell_later ka c23
      have c24' := cell_later ka c24
      clear hx ha hb c20 c21 c22 c23 c24
      go_wp2
      go_roundw
      case rel => exact ⟨k + 1, by omega, rfl, hBr.trans ((two_new (Below.refl _ _)).2.2.1.mono hBr.size)⟩
      case measure => (simp [intOf] <;> omega)
    · have kl : ¬ (k : Int) < (l.length : Int) := by omega
      go_wp2
      go_ret
      exact ⟨rfl, hBr⟩

/-- One answer of Asks. -/
def AsP (l : List Ak) (x : Int) (w : World) (e : Ending) (w' : World) : Prop :=
  ∃ a c, e = .returned (.tuple #[.slice a l.length c, .int .i64 x]) ∧ Below w.heap.size w w' ∧ w'.ownsRow w.heap.size 42 5 (.slice a l.length c) l.length (l.flatMap akCells) ∧ (x ≠ 0 → a = none)
theorem asP_nil {x : Int} {w w' : World} {e : Ending} (he : e = .returned (.tuple #[.slice none 0 0, .int .i64 x])) (hb : Below w.heap.size w w') : AsP [] x w e w' :=
  ⟨none, 0, he, hb, World.ownsRow_nil _ _ _ _, fun _ => rfl⟩
theorem asks_both (s sch : ByteArray) (hsch : sch.size ≤ maxLen) : ∃ (l : List Ak) (x : Int), l.length ≤ 100 ∧
    (∀ w : World, Calls Try.prog 22 #[.string s, .string sch] w fun e w' => AsP l x w e w') ∧
    (∀ w : World, Calls Try.prog 23 #[.string s, .string sch] w fun e w' => AsP l x w e w') := by
  by_cases h : (ckP s).1 ≠ 0
  · refine ⟨[], (ckP s).1, by simp, fun w => ?_, fun w => ?_⟩
    · exact (asks_bad s sch _ h w (fun w => traceOf_err s sch w h)).mono fun e w' ⟨he, hb⟩ => asP_nil he hb
    · exact (refAsks_bad s sch _ h w (fun w => world_err s sch w h)).mono fun e w' ⟨he, hb⟩ => asP_nil he hb
  · have h0 : (ckP s).1 = 0 := by omega
    cases hW : toLoop sch (beginW (thLoop s 0 0 [])) 0 with
    | none =>
      refine ⟨[], 5, by simp, fun w => ?_, fun w => ?_⟩
      · exact (asks_bad s sch 5 (by decide) w (fun w => traceOf_none s sch hsch w h0 hW)).mono fun e w' ⟨he, hb⟩ => asP_nil he hb
      · exact (refAsks_bad s sch 5 (by decide) w (fun w => world_none s sch w h0 (ckP_zero s h0).1 hsch (begin_inv s h0) hW)).mono fun e w' ⟨he, hb⟩ => asP_nil he hb
    | some W =>
      have I := (toLoop_inv sch _ 0 _ W rfl (begin_inv s h0) hW).1
      refine ⟨asksW W, 0, ?_, fun w => ?_, fun w => ?_⟩
      · have h1 := asks1_len W.log W.log.length
        have h2 := asks2_len (wantsE W W.prog.length) (wantsE W W.prog.length).length
        have h3 := wantsE_len W W.prog.length
        have h4 := I.small
        have h5 := I.good.n5
        rw [asksW, List.length_append]; omega
      · refine (asks_ok s sch hsch w h0 W hW).mono ?_
        rintro e w' ⟨g, c, he, hb, ho⟩
        exact ⟨_, c, he, hb, ho, fun hx => absurd rfl hx⟩
      · refine (refAsks_ok s sch hsch w h0 W hW).mono ?_
        rintro e w' ⟨v, he, hb, ho⟩
        have hf : ∃ a c, v = .slice a (asksW W).length c := by
          rcases ho.2 with ⟨h1, h2⟩ | ⟨g, cap, _, h1, _⟩
          · exact ⟨none, 0, by rw [h1, h2]⟩
          · exact ⟨_, cap, h1⟩
        obtain ⟨a, c, rfl⟩ := hf
        exact ⟨a, c, he, hb, ho, fun hx => absurd rfl hx⟩
end Go.Proofs.Ytfdbnilopfnifaa
namespace Go.Proofs.Ytfdbnilopfnifaa
open Go.RowKit

/-! Runs, as a relation. -/
def mayW (W : Wd) : List Nat := (mayLoop W 0 [] false).1
def aliveW (W : Wd) : Bool := (mayLoop W 0 [] false).2
def pickW (W : Wd) (p : ByteArray) (j : Nat) : Nat := (mayW W).getD ((byteI p j).toNat % (mayW W).length) 0

inductive RunsTo (p : ByteArray) : Wd → Nat → List Nat → Int → Wd → Prop
  | stop {W : Wd} {j : Nat} : mayW W = [] → RunsTo p W j [] (if aliveW W = true then 2 else 1) W
  | fault {W : Wd} {j : Nat} : mayW W ≠ [] → stateOf W (pickW W p j) = 5 → RunsTo p W j [] 3 W
  | move {W WE : Wd} {j : Nat} {ms : List Nat} {h : Int} : mayW W ≠ [] → stateOf W (pickW W p j) = 1 → pickW W p j < W.prog.length → RunsTo p (moveT W (pickW W p j)) (j + 1) ms h WE → RunsTo p W j (pickW W p j :: ms) h WE

theorem mayW_mem {W : Wd} {x : Nat} (h : x ∈ mayW W) : x < W.prog.length ∧ (stateOf W x = 1 ∨ stateOf W x = 5) := mayLoop_mem W _ 0 [] false rfl (by simp) x h
theorem pickW_mem {W : Wd} (p : ByteArray) (j : Nat) (h : mayW W ≠ []) : pickW W p j ∈ mayW W := by
  have hlp : 0 < (mayW W).length := List.length_pos_iff.2 h
  have hk : (byteI p j).toNat % (mayW W).length < (mayW W).length := Nat.mod_lt _ hlp
  have e : pickW W p j = (mayW W)[(byteI p j).toNat % (mayW W).length] := by simp [pickW, hk]
  rw [e]
  exact List.getElem_mem hk

theorem runs_ex (p : ByteArray) : ∀ (n : Nat) (W : Wd) (j : Nat), W.Inv → 60 - W.log.length = n → ∃ ms h WE, RunsTo p W j ms h WE := by
  intro n
  induction n with
  | zero =>
    intro W j I hn
    by_cases hm : mayW W = []
    · exact ⟨_, _, _, .stop hm⟩
    · obtain ⟨ht, hs⟩ := mayW_mem (pickW_mem p j hm)
      rcases hs with hs | hs
      · have I2 := moveT_inv I ht hs
        have := I2.small
        rw [moveT_log] at this
        have := I.small
        omega
      · exact ⟨_, _, _, .fault hm hs⟩
  | succ n ih =>
    intro W j I hn
    by_cases hm : mayW W = []
    · exact ⟨_, _, _, .stop hm⟩
    · obtain ⟨ht, hs⟩ := mayW_mem (pickW_mem p j hm)
      rcases hs with hs | hs
      · obtain ⟨ms, h, WE, hr⟩ := ih (moveT W (pickW W p j)) (j + 1) (moveT_inv I ht hs) (by rw [moveT_log]; omega)
        exact ⟨_, _, _, .move hm hs ht hr⟩
      · exact ⟨_, _, _, .fault hm hs⟩

theorem RunsTo.inv {p : ByteArray} {W WE : Wd} {j : Nat} {ms : List Nat} {h : Int} (r : RunsTo p W j ms h WE) (I : W.Inv) : WE.Inv ∧ WE.prog = W.prog ∧ WE.log.length = W.log.length + ms.length := by
  induction r with
  | stop _ => exact ⟨I, rfl, rfl⟩
  | fault _ _ => exact ⟨I, rfl, rfl⟩
  | move hm hs ht _ ih =>
    obtain ⟨h1, h2, h3⟩ := ih (moveT_inv I ht hs)
    refine ⟨h1, h2.trans (moveT_prog _ _), ?_⟩
    rw [h3, moveT_log, List.length_cons]; omega
theorem RunsTo.len {p : ByteArray} {W WE : Wd} {j : Nat} {ms : List Nat} {h : Int} (r : RunsTo p W j ms h WE) (I : W.Inv) : ms.length ≤ 60 := by
  obtain ⟨h1, _, h3⟩ := r.inv I
  have := h1.small
  omega
theorem RunsTo.resumeL {p : ByteArray} {W WE : Wd} {j : Nat} {ms : List Nat} {h : Int} (r : RunsTo p W j ms h WE) : ∀ (f : Nat) (o : List Nat), o.length = j → ms.length < f → resumeL p f W o = (o ++ ms, h) := by
  induction r with
  | stop hm =>
    intro f o ho hf
    obtain ⟨f, rfl⟩ : ∃ g, f = g + 1 := ⟨f - 1, by simp at hf; omega⟩
    rw [Go.Proofs.Ytfdbnilopfnifaa.resumeL, if_pos (show (mayLoop _ 0 [] false).1 = [] from hm), List.append_nil]; rfl
  | fault hm hs =>
    intro f o ho hf
    obtain ⟨f, rfl⟩ : ∃ g, f = g + 1 := ⟨f - 1, by simp at hf; omega⟩
    subst ho
    rw [Go.Proofs.Ytfdbnilopfnifaa.resumeL, if_neg (show ¬ (mayLoop _ 0 [] false).1 = [] from hm)]
    simp only [pickW, mayW] at hs
    rw [if_pos hs, List.append_nil]
  | @move W WE j ms h hm hs ht _ ih =>
    intro f o ho hf
    obtain ⟨f, rfl⟩ : ∃ g, f = g + 1 := ⟨f - 1, by simp at hf; omega⟩
    subst ho
    rw [Go.Proofs.Ytfdbnilopfnifaa.resumeL, if_neg (show ¬ (mayLoop _ 0 [] false).1 = [] from hm)]
    have hs' := hs
    simp only [pickW, mayW] at hs'
    rw [if_neg (by rw [hs']; decide)]
    have := ih f (o ++ [pickW W p o.length]) (by simp) (by simp at hf; omega)
    simp only [pickW, mayW] at this ⊢
    rw [this]
    simp

/-- The world behind some moves. -/
def goL (W : Wd) : List Nat → Option Wd
  | [] => some W
  | t :: ms => if t < W.prog.length ∧ stateOf W t = 1 then goL (moveT W t) ms else none
theorem goL_snoc : ∀ (ms : List Nat) (W : Wd) (t : Nat), goL W (ms ++ [t]) = (goL W ms).bind fun V => if t < V.prog.length ∧ stateOf V t = 1 then some (moveT V t) else none
  | [], W, t => by simp [goL]
  | a :: ms, W, t => by
    simp only [List.cons_append, goL]
    split
    · exact goL_snoc ms _ t
    · rfl
theorem goL_inv : ∀ (ms : List Nat) (W V : Wd), W.Inv → goL W ms = some V → V.Inv ∧ V.prog = W.prog
  | [], W, V, I, h => by simp only [goL, Option.some.injEq] at h; subst h; exact ⟨I, rfl⟩
  | a :: ms, W, V, I, h => by
    simp only [goL] at h
    split at h
    · rename_i hc
      obtain ⟨h1, h2⟩ := goL_inv ms _ V (moveT_inv I hc.1 hc.2) h
      exact ⟨h1, h2.trans (moveT_prog _ _)⟩
    · cases h
theorem RunsTo.goes {p : ByteArray} {W WE : Wd} {j : Nat} {ms : List Nat} {h : Int} (r : RunsTo p W j ms h WE) : goL W ms = some WE := by
  induction r with
  | stop _ => rfl
  | fault _ _ => rfl
  | move hm hs ht _ ih => rw [goL, if_pos ⟨ht, hs⟩]; exact ih
theorem RunsTo.small {p : ByteArray} {W WE : Wd} {j : Nat} {ms : List Nat} {h : Int} (r : RunsTo p W j ms h WE) (h5 : W.prog.length ≤ 5) : ∀ t ∈ ms, t < 5 := by
  induction r with
  | stop _ => simp
  | fault _ _ => simp
  | move hm hs ht _ ih =>
    intro t htm
    rcases List.mem_cons.1 htm with rfl | htm
    · omega
    · exact ih (by rw [moveT_prog]; exact h5) t htm
/-- From each of its states on a run goes on to the same end. -/
theorem RunsTo.rest {p : ByteArray} {W WE : Wd} {j : Nat} {ms : List Nat} {h : Int} (r : RunsTo p W j ms h WE) : ∀ k, k ≤ ms.length → ∃ V, goL W (ms.take k) = some V ∧ RunsTo p V (j + k) (ms.drop k) h WE := by
  induction r with
  | stop hm => intro k hk; simp at hk; subst hk; exact ⟨_, rfl, .stop hm⟩
  | fault hm hs => intro k hk; simp at hk; subst hk; exact ⟨_, rfl, .fault hm hs⟩
  | move hm hs ht hr ih =>
    intro k hk
    cases k with
    | zero => exact ⟨_, rfl, .move hm hs ht hr⟩
    | succ k =>
      obtain ⟨V, h1, h2⟩ := ih k (by simpa using hk)
      refine ⟨V, ?_, ?_⟩
      · rw [List.take_succ_cons, goL, if_pos ⟨ht, hs⟩]; exact h1
      · rw [List.drop_succ_cons, show ∀ a : Nat, a + (k + 1) = a + 1 + k from fun a => by omega]; exact h2
theorem RunsTo.shift {p q : ByteArray} {W WE : Wd} {i : Nat} {ms : List Nat} {h : Int} (r : RunsTo p W i ms h WE) : ∀ (j : Nat), (∀ a, byteI q (j + a) = byteI p (i + a)) → RunsTo q W j ms h WE := by
  induction r with
  | stop hm => intro j _; exact .stop hm
  | fault hm hs =>
    intro j hb
    have hb0 := hb 0
    refine .fault hm ?_
    simp only [Nat.add_zero] at hb0
    rw [pickW, hb0]; exact hs
  | @move W WE i ms h hm hs ht _ ih =>
    intro j hb
    have hb0 := hb 0
    simp only [Nat.add_zero] at hb0
    have e : pickW W q j = pickW W p i := by rw [pickW, hb0]; rfl
    rw [← e]
    refine .move hm (by rw [e]; exact hs) (by rw [e]; exact ht) ?_
    rw [e]
    exact ih (j + 1) (fun a => by have := hb (a + 1); rw [show j + 1 + a = j + (a + 1) by omega, show i + 1 + a = i + (a + 1) by omega]; exact this)
end Go.Proofs.Ytfdbnilopfnifaa
