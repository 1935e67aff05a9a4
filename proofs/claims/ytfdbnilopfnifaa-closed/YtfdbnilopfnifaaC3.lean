import Derived.Test.YtfdbnilopfnifaaC2
namespace Go.Proofs.Ytfdbnilopfnifaa
open Go.RowKit

theorem thLoop_len (s : ByteArray) : ∀ (n frm k : Nat) (done : List ByteArray), s.size - k = n → (thLoop s frm k done).length ≤ done.length + 1 + (s.size - k) := by
  intro n
  induction n with
  | zero => intro frm k done h; rw [thLoop, if_neg (by omega)]; simp
  | succ n ih =>
    intro frm k done h
    rw [thLoop, if_pos (by omega)]
    split
    · have := ih (k + 1) (k + 1) (done ++ [s.extract frm k]) (by omega)
      simp at this; omega
    · have := ih frm (k + 1) done (by omega)
      omega
theorem thLoop_size (s : ByteArray) : ∀ (n frm k : Nat) (done : List ByteArray), s.size - k = n → (∀ x ∈ done, x.size ≤ s.size) → ∀ x ∈ thLoop s frm k done, x.size ≤ s.size := by
  intro n
  induction n with
  | zero =>
    intro frm k done h hd x hx
    rw [thLoop, if_neg (by omega)] at hx
    rcases List.mem_append.1 hx with hx | hx
    · exact hd x hx
    · simp at hx; subst hx; rw [ByteArray.size_extract]; omega
  | succ n ih =>
    intro frm k done h hd x hx
    rw [thLoop, if_pos (by omega)] at hx
    split at hx
    · refine ih (k + 1) (k + 1) _ (by omega) ?_ x hx
      intro y hy
      rcases List.mem_append.1 hy with hy | hy
      · exact hd y hy
      · simp at hy; subst hy; rw [ByteArray.size_extract]; omega
    · exact ih frm (k + 1) done (by omega) hd x hx

/-- Strings in a slice, as they are read. -/
def StrsIn (w : World) (B : Nat) (g : Nat) (l : List ByteArray) : Prop := B ≤ g ∧ g < w.heap.size ∧ ∀ j x, l[j]? = some x → w.cell? ⟨g, j, none⟩ = some (.string x)
theorem StrsIn.below {w w' : World} {B g : Nat} {l : List ByteArray} (h : StrsIn w B g l) (hb : Below w.heap.size w w') : StrsIn w' B g l :=
  ⟨h.1, Nat.lt_of_lt_of_le h.2.1 hb.size, fun j x hx => by rw [hb.cell (p := ⟨g, j, none⟩) h.2.1]; exact h.2.2 j x hx⟩
theorem strs_of_own {w : World} {B : Nat} {v : Value} {l : List ByteArray} (h : w.ownsRow B 9 1 v l.length (l.map Value.string)) (hn : v.ownBlock ≠ none) : ∃ g cap, v = .slice (some ⟨g, 0, none⟩) l.length cap ∧ StrsIn w B g l := by
  obtain ⟨g, cap, hv, hB, hlt⟩ := RowD.at.form (r := ⟨9, 1, v, l.length, l.map Value.string⟩) ⟨h, hn⟩
  have hv' : v = .slice (some ⟨g, 0, none⟩) l.length cap := hv
  refine ⟨g, cap, hv', hB, hlt, fun j x hx => ?_⟩
  rw [hv'] at h
  have hj : j < l.length := (List.getElem?_eq_some_iff.1 hx).1
  rw [h.cellAt j (by omega)]
  simp [hx]

theorem threads_read (s : ByteArray) (w : World) (hs : s.size ≤ 160) :
    Calls Try.prog 47 #[.string s] w fun e w' => ∃ g cap, e = .returned (.slice (some ⟨g, 0, none⟩) (thLoop s 0 0 []).length cap) ∧ Below w.heap.size w w' ∧ StrsIn w' w.heap.size g (thLoop s 0 0 []) := by
  refine (threads_any s w hs).mono ?_
  rintro e w1 ⟨v, rfl, hb, ho, hn⟩
  obtain ⟨g, cap, rfl, h⟩ := strs_of_own ho hn
  exact ⟨g, cap, rfl, hb, h⟩
/-- Of 'steps' the length alone. -/
theorem steps_len (s : ByteArray) (w : World) (hs : s.size ≤ 160) :
    Calls Try.prog 48 #[.string s] w fun e w' => ∃ a cap, e = .returned (.slice a (stLoop s 0 []).length cap) ∧ Below w.heap.size w w' ∧ (stLoop s 0 []).length ≤ 160 := by
  refine (steps_any s w hs).mono ?_
  rintro e w1 ⟨v, rfl, hb, ho, hn⟩
  rcases ho.2 with ⟨rfl, h0⟩ | ⟨g, cap, cur, rfl, _⟩
  · exact ⟨none, 0, by rw [h0], hb, hn⟩
  · exact ⟨_, cap, rfl, hb, hn⟩

def ckExtra (l : List ByteArray) (t : Nat) : Int :=
  if h : t < l.length then (if 5 ≤ t ∨ 12 < (stLoop l[t] 0 []).length then (t : Int) else ckExtra l (t + 1)) else -1
termination_by l.length - t
def ckStray (s : ByteArray) (n : Nat) (i : Nat) : Int :=
  if i < s.size then (if (byteI s (i - 1) = 60 ∨ byteI s (i - 1) = 62) ∧ (n : Int) ≤ (byteI s i - 48) % 256 then (i : Int) else ckStray s n (i + 1)) else -1
termination_by s.size - i
def ckEnd (s : ByteArray) (l : List ByteArray) : Int × Int :=
  if ckExtra l 0 ≠ -1 then (3, ckExtra l 0)
  else if ckStray s l.length 1 ≠ -1 then (4, ckStray s l.length 1)
  else (0, 0)
def ckP (s : ByteArray) : Int × Int :=
  if 160 < s.size then (1, 0)
  else if 0 ≤ badLoop s 0 0 then (2, badLoop s 0 0)
  else ckEnd s (thLoop s 0 0 [])

theorem ckExtra_pos (l : List ByteArray) : ∀ (n t : Nat), l.length - t = n → -1 ≤ ckExtra l t := by
  intro n
  induction n with
  | zero => intro t h; rw [ckExtra, dif_neg (by omega)]; omega
  | succ n ih =>
    intro t h
    rw [ckExtra, dif_pos (by omega)]
    split
    · omega
    · exact ih (t + 1) (by omega)

set_option maxHeartbeats 2000000 in
theorem refCheck_any (s : ByteArray) (w : World) :
    Calls Try.prog 15 #[.string s] w fun e w' => e = .returned (.tuple #[.int .i64 (ckP s).1, .int .i64 (ckP s).2]) ∧ Below w.heap.size w w' := by
  by_cases h160 : 160 < s.size
  · have hr : ckP s = (1, 0) := by rw [ckP, if_pos h160]
    rw [hr]; clear hr
    go_enter Try.func15, Try.ntmps15
    go_wp2
    go_ret2
    exact ⟨rfl, Below.refl _ _⟩
  have hs : s.size ≤ 160 := by omega
  have hmx : s.size ≤ maxLen := by unfold maxLen; omega
  have hbad := fun w => bad_any s w hmx
  by_cases hb0 : 0 ≤ badLoop s 0 0
  · have hr : ckP s = (2, badLoop s 0 0) := by rw [ckP, if_neg h160, if_pos hb0]
    rw [hr]; clear hr
    go_enter Try.func15, Try.ntmps15
    go_wp2_with (go_at_call 46; refine (hbad _).mono ?_; rintro e w2 ⟨rfl, rfl⟩)
    go_ret2
    exact ⟨rfl, Below.refl _ _⟩
  have hth := fun w => threads_read s w hs
  have hlen := thLoop_len s _ 0 0 [] rfl
  have hsz := thLoop_size s _ 0 0 [] rfl (by simp)
  have hck : ckP s = ckEnd s (thLoop s 0 0 []) := by
    rw [ckP, if_neg h160, if_neg hb0]
  rw [hck]; clear hck
  generalize thLoop s 0 0 [] = l at *
  simp only [List.length_nil] at hlen
  go_enter Try.func15, Try.ntmps15
  go_wp2_with (first | (go_at_call 46; refine (hbad _).mono ?_; rintro e w2 ⟨rfl, hw⟩; have hw2 := hw.symm; clear hw; subst hw2) | (go_at_call 47; refine (hth _).mono ?_; rintro e w1 ⟨g, cap, rfl, hB, hst⟩))
  clear hbad hth
  go_loopw [6] (fun i wr => ∃ t : Nat, t ≤ l.length ∧ i = .int .i64 t ∧ Hid (ckExtra l 0 = ckExtra l t) ∧ Below w.heap.size w wr ∧ StrsIn wr w.heap.size g l) (fun i _ => l.length - (intOf i).toNat)
  case atStart => exact ⟨0, Nat.zero_le _, rfl, rfl, hB, hst⟩
  case round =>
    obtain ⟨t, ht, rfl, hh, hBr, hsr⟩ := hrel
    clear hB hst
    by_cases hlt : t < l.length
    · have hh2 : Hid (ckExtra l 0 = if 5 ≤ t ∨ 12 < (stLoop l[t] 0 []).length then (t : Int) else ckExtra l (t + 1)) := by rw [Hid, hh.out, ckExtra, dif_pos hlt]
      clear hh
      have hc := hsr.2.2 t l[t] (by simp [hlt])
      have hstp := fun w => steps_len l[t] w (by have := hsz l[t] (by simp); omega)
      generalize stLoop l[t] 0 [] = r at hh2 hstp
      generalize l[t] = x at hc hstp
      by_cases hex : 5 ≤ t ∨ 12 < r.length
      · rcases hex with hex | hex
        · have h2 : ¬ (l.length ≤ t) := by omega
          go_wp2_with (go_at_call 48; refine (hstp _).mono ?_; rintro e w2 ⟨a, cap2, rfl, hB2, hr160⟩)
          go_ret2
          refine ⟨?_, hBr.trans (hB2.mono hBr.size)⟩
          have hx : ckExtra l 0 = (t : Int) := by rw [hh2.out, if_pos (.inl hex)]
          rw [ckEnd, hx, if_pos (by omega)]
          rfl
        · by_cases h5 : 5 ≤ t
          all_goals
            go_wp2_with (go_at_call 48; refine (hstp _).mono ?_; rintro e w2 ⟨a, cap2, rfl, hB2, hr160⟩)
            go_ret2
            refine ⟨?_, hBr.trans (hB2.mono hBr.size)⟩
            have hx : ckExtra l 0 = (t : Int) := by rw [hh2.out, if_pos (.inr hex)]
            rw [ckEnd, hx, if_pos (by omega)]
            rfl
      · have h5 : ¬ 5 ≤ t := by omega
        have h12 : ¬ 12 < r.length := by omega
        go_wp2_with (go_at_call 48; refine (hstp _).mono ?_; rintro e w2 ⟨a, cap2, rfl, hB2, hr160⟩)
        go_roundw
        case rel => exact ⟨t + 1, by omega, by go_num, by rw [Hid, hh2.out, if_neg (by omega)], hBr.trans (hB2.mono hBr.size), hsr.below hB2⟩
        case measure => simp [intOf]; omega
    · have hx : ckExtra l 0 = -1 := by rw [hh.out, ckExtra, dif_neg hlt]
      have hce : ckEnd s l = if ckStray s l.length 1 ≠ -1 then (4, ckStray s l.length 1) else (0, 0) := by rw [ckEnd, if_neg (by omega)]
      have HCE : Hid (ckEnd s l = if ckStray s l.length 1 ≠ -1 then (4, ckStray s l.length 1) else (0, 0)) := hce
      clear hh hce hx
      go_wp2
      go_loop [8] (fun i => ∃ k : Nat, 1 ≤ k ∧ k ≤ s.size + 1 ∧ i = .int .i64 k ∧ Hid (ckStray s l.length 1 = ckStray s l.length k)) (fun i => s.size + 1 - (intOf i).toNat)
      case atStart => exact ⟨1, by omega, by omega, rfl, rfl⟩
      case round =>
        obtain ⟨k, hk1, hk, rfl, hh⟩ := hrel
        by_cases hks : k < s.size
        · have hh2 : Hid (ckStray s l.length 1 = if (byteI s (k - 1) = 60 ∨ byteI s (k - 1) = 62) ∧ (l.length : Int) ≤ (byteI s k - 48) % 256 then (k : Int) else ckStray s l.length (k + 1)) := by rw [Hid, hh.out, ckStray, if_pos hks]
          clear hh
          obtain ⟨j, rfl⟩ : ∃ j, k = j + 1 := ⟨k - 1, by omega⟩
          have hj : j < s.size := by omega
          have hbj := byteI_in hj
          have hbk := byteI_in hks
          have hlo := byteI_lo s (j + 1)
          have hhi := byteI_hi s (j + 1)
          simp only [Nat.add_sub_cancel] at hh2
          go_wp2
          · have hx : ckStray s l.length 1 = ((j + 1 : Nat) : Int) := by rw [hh2.out, if_pos (by omega)]
            have hy : ckEnd s l = (4, ((j + 1 : Nat) : Int)) := by rw [HCE.out, hx, if_pos (by omega)]
            rw [hy]
            go_ret2
            exact ⟨rfl, hBr⟩
          · go_round
            case rel => exact ⟨j + 1 + 1, by omega, by omega, by go_num, by rw [Hid, hh2.out, if_neg (by omega)]⟩
            case measure => simp [intOf]; omega
          · have hx : ckStray s l.length 1 = ((j + 1 : Nat) : Int) := by rw [hh2.out, if_pos (by omega)]
            have hy : ckEnd s l = (4, ((j + 1 : Nat) : Int)) := by rw [HCE.out, hx, if_pos (by omega)]
            rw [hy]
            go_ret2
            exact ⟨rfl, hBr⟩
          · go_round
            case rel => exact ⟨j + 1 + 1, by omega, by omega, by go_num, by rw [Hid, hh2.out, if_neg (by omega)]⟩
            case measure => simp [intOf]; omega
          · go_round
            case rel => exact ⟨j + 1 + 1, by omega, by omega, by go_num, by rw [Hid, hh2.out, if_neg (by omega)]⟩
            case measure => simp [intOf]; omega
        · have hx : ckStray s l.length 1 = -1 := by rw [hh.out, ckStray, if_neg hks]
          have hy : ckEnd s l = (0, 0) := by rw [HCE.out, hx, if_neg (by omega)]
          have HY : Hid (ckEnd s l = (0, 0)) := hy
          clear hh hx hy HCE
          go_wp2
          go_ret2
          exact ⟨by rw [HY.out]; rfl, hBr⟩
end Go.Proofs.Ytfdbnilopfnifaa
namespace Go.Proofs.Ytfdbnilopfnifaa
open Go.RowKit

/-! Rows that a call owns, each in a block of its own; a row may be nil. -/

def Apart (a b : RowD) : Prop := a.v.ownBlock ≠ b.v.ownBlock ∨ a.v.ownBlock = none
theorem Apart.symm {a b : RowD} (h : Apart a b) : Apart b a := by
  unfold Apart at *
  rcases h with h | h
  · exact .inl (Ne.symm h)
  · by_cases hb : b.v.ownBlock = none
    · exact .inr hb
    · exact .inl (by rw [h]; exact hb)
def RowD.owned (w : World) (B : Nat) (r : RowD) : Prop := w.ownsRow B r.e r.size r.v r.n r.xs
def Fams (w : World) (B : Nat) (fam : List RowD) : Prop := (∀ r ∈ fam, r.owned w B) ∧ fam.Pairwise Apart

theorem Fams.perm {w : World} {B : Nat} {f f' : List RowD} (h : Fams w B f) (hp : f.Perm f') : Fams w B f' :=
  ⟨fun r hr => h.1 r (hp.mem_iff.2 hr), (hp.pairwise_iff (fun hab => Apart.symm hab)).1 h.2⟩
theorem Fams.own {w : World} {B : Nat} {r : RowD} {f : List RowD} (h : Fams w B f) (hm : r ∈ f) : w.ownsRow B r.e r.size r.v r.n r.xs := h.1 r hm
theorem Fams.tail {w : World} {B : Nat} {r : RowD} {f : List RowD} (h : Fams w B (r :: f)) : Fams w B f :=
  ⟨fun x hx => h.1 x (List.mem_cons_of_mem _ hx), (List.pairwise_cons.1 h.2).2⟩
theorem Fams.nil (w : World) (B : Nat) : Fams w B [] := ⟨by simp, List.Pairwise.nil⟩

theorem Fams.head {w w' : World} {B : Nat} {r r' : RowD} {f : List RowD} (h : Fams w B (r :: f)) (hg : w.grownBy w' r.v.ownBlock) (hf : Fresh w r.v r'.v) (ha : r'.owned w' B) : Fams w' B (r' :: f) := by
  obtain ⟨h1, h2⟩ := h
  rw [List.pairwise_cons] at h2
  have hother : ∀ x ∈ f, x.v.ownBlock = none ∨ x.v.ownBlock ≠ r.v.ownBlock := fun x hx => by
    rcases (h2.1 x hx).symm with h | h
    · exact .inr h
    · exact .inl h
  refine ⟨fun x hx => ?_, ?_⟩
  · rcases List.mem_cons.1 hx with rfl | hx
    · exact ha
    · exact World.ownsRow.kept (h1 x (List.mem_cons_of_mem _ hx)) hg (hother x hx)
  · rw [List.pairwise_cons]
    refine ⟨fun x hx => ?_, h2.2⟩
    rcases hf with e | ⟨g, e, hgw⟩
    · rcases h2.1 x hx with h | h
      · exact .inl (by rw [e]; exact h)
      · exact .inr (by rw [e]; exact h)
    · refine .inl ?_
      rw [e]
      intro hh
      have := (World.ownsRow.lt (h1 x (List.mem_cons_of_mem _ hx)) g hh.symm).2
      omega

theorem Fams.kept {w w' : World} {B : Nat} {f : List RowD} (h : Fams w B f) (hg : w.grownBy w' none) : Fams w' B f :=
  ⟨fun r hr => World.ownsRow.kept (h.1 r hr) hg (by cases hv : r.v.ownBlock <;> simp), h.2⟩
theorem Fams.alloc {w : World} {B : Nat} {f : List RowD} (h : Fams w B f) (o : Obj) : Fams (w.alloc o) B f := h.kept (World.grownBy_alloc w o none)
theorem Fams.below {w w' : World} {B : Nat} {f : List RowD} (h : Fams w B f) (hb : Below w.heap.size w w') : Fams w' B f := h.kept (grownBy_of_below hb)
theorem Fams.drew {w : World} {B : Nat} {f : List RowD} (h : Fams w B f) : Fams w.drew B f := h.below (Below.refl _ _).drew

theorem Fams.lit {w : World} {B : Nat} {f : List RowD} (h : Fams w B f) (hB : B ≤ w.heap.size) (e : TypeId) (size : Nat) (cs : Array Value) (n : Nat) (hm : n ≤ maxLen) (hs : cs.size = n * size) :
    Fams (w.alloc (.cells cs e)) B (⟨e, size, .slice (some ⟨w.heap.size, 0, none⟩) n n, n, cs.toList⟩ :: f) := by
  have h' := h.alloc (.cells cs e)
  refine ⟨fun x hx => ?_, ?_⟩
  · rcases List.mem_cons.1 hx with rfl | hx
    · exact World.ownsRow_lit w cs n hB hm hs
    · exact h'.1 x hx
  · rw [List.pairwise_cons]
    refine ⟨fun x hx => .inl ?_, h'.2⟩
    intro hh
    have := (World.ownsRow.lt (h.1 x hx) w.heap.size (by rw [← hh]; rfl)).2
    omega
/-- A row that lies wholly in blocks that were not there. -/
theorem Fams.add {w w' : World} {B : Nat} {f : List RowD} {r : RowD} (h : Fams w B f) (hb : Below w.heap.size w w') (ho : r.owned w' w.heap.size) (hB : B ≤ w.heap.size) : Fams w' B (r :: f) := by
  have h' := h.below hb
  refine ⟨fun x hx => ?_, ?_⟩
  · rcases List.mem_cons.1 hx with rfl | hx
    · obtain ⟨h1, h2⟩ := ho
      refine ⟨h1, ?_⟩
      rcases h2 with h2 | ⟨g, cap, cur, a, b, c⟩
      · exact .inl h2
      · exact .inr ⟨g, cap, cur, a, Nat.le_trans hB b, c⟩
    · exact h'.1 x hx
  · rw [List.pairwise_cons]
    refine ⟨fun x hx => ?_, h'.2⟩
    cases hr : r.v.ownBlock with
    | none => exact .inr hr
    | some k =>
      refine .inl ?_
      rw [hr]
      intro hh
      have h1 := (World.ownsRow.lt ho k hr).1
      have h2 := (World.ownsRow.lt (h.1 x hx) k hh.symm).2
      omega
theorem Fams.addNil {w : World} {B : Nat} {f : List RowD} (h : Fams w B f) (e : TypeId) (size : Nat) : Fams w B (⟨e, size, .slice none 0 0, 0, []⟩ :: f) := by
  refine ⟨fun x hx => ?_, ?_⟩
  · rcases List.mem_cons.1 hx with rfl | hx
    · exact World.ownsRow_nil _ _ _ _
    · exact h.1 x hx
  · rw [List.pairwise_cons]
    exact ⟨fun x _ => .inr rfl, h.2⟩

/-- A store into a row that is not nil. -/
theorem Fams.store {w : World} {B : Nat} {e : TypeId} {size g n cap : Nat} {xs : List Value} {f : List RowD} (h : Fams w B (⟨e, size, .slice (some ⟨g, 0, none⟩) n cap, n, xs⟩ :: f)) (j : Nat) (u : Value) :
    Fams (w.setCell ⟨g, j, none⟩ u) B (⟨e, size, .slice (some ⟨g, 0, none⟩) n cap, n, xs.set j u⟩ :: f) := by
  have ho := h.own (List.mem_cons_self ..)
  have hs := World.ownsRow.stored ho j u
  exact Fams.head h hs.2 (.inl rfl) hs.1

/-! The reference's world. -/
/-- A thread's digit. -/
def nameS (t : Nat) : ByteArray := ⟨#[UInt8.ofNat (48 + t)]⟩
/-- Who has a lock, as a text. -/
def hasS : Option Nat → ByteArray
  | none => ⟨#[]⟩
  | some t => nameS t
structure Ev where
  thread : Int
  place : Int
  txt : ByteArray
  holds : ByteArray
def evCells (x : Ev) : List Value := [.int .i64 x.thread, .int .i64 x.place, .string x.txt, .string x.holds]
structure Wd where
  prog : List (List ByteArray)
  born : List Bool
  place : List Nat
  has : List (Option Nat)
  set : List Bool
  log : List Ev

def placeCells (l : List Nat) : List Value := l.map fun (n : Nat) => Value.int .i64 (n : Int)
def hasCells (l : List (Option Nat)) : List Value := l.map fun o => Value.string (hasS o)
def rowsS : List (List ByteArray) → List Value → List RowD
  | l :: ls, v :: vs => ⟨9, 1, v, l.length, l.map Value.string⟩ :: rowsS ls vs
  | _, _ => []
/-- The values of the six fields. -/
structure Six where
  P : Value
  B : Value
  L : Value
  H : Value
  S : Value
  G : Value
def famW (p : Nat) (W : Wd) (v : Six) (inner : List Value) : List RowD :=
  ⟨85, 1, .slice (some ⟨p, 0, none⟩) 6 6, 6, [v.P, v.B, v.L, v.H, v.S, v.G]⟩ ::
  ⟨4, 1, v.B, W.born.length, W.born.map Value.bool⟩ ::
  ⟨3, 1, v.L, W.place.length, placeCells W.place⟩ ::
  ⟨9, 1, v.H, W.has.length, hasCells W.has⟩ ::
  ⟨4, 1, v.S, W.set.length, W.set.map Value.bool⟩ ::
  ⟨128, 4, v.G, W.log.length, W.log.flatMap evCells⟩ ::
  ⟨76, 1, v.P, W.prog.length, inner⟩ :: rowsS W.prog inner

/-- The world W lies behind the pointer to block p, all of it in blocks of the call's own. -/
def RepW (w : World) (B p : Nat) (W : Wd) : Prop := ∃ v inner, inner.length = W.prog.length ∧ Fams w B (famW p W v inner)

theorem RepW.below {w w' : World} {B p : Nat} {W : Wd} (h : RepW w B p W) (hb : Below w.heap.size w w') : RepW w' B p W := by
  obtain ⟨v, inner, hl, hf⟩ := h
  exact ⟨v, inner, hl, hf.below hb⟩

/-- What is read of a world that is not nil in any of its parts but, perhaps, the log. -/
structure WIn (w : World) (p : Nat) (W : Wd) (gP cP gB cB gL cL gH cH gS cS : Nat) (aG : Option Addr) (cG : Nat) : Prop where
  fP : w.cell? ⟨p, 0, none⟩ = some (.slice (some ⟨gP, 0, none⟩) W.prog.length cP)
  fB : w.cell? ⟨p, 1, none⟩ = some (.slice (some ⟨gB, 0, none⟩) W.born.length cB)
  fL : w.cell? ⟨p, 2, none⟩ = some (.slice (some ⟨gL, 0, none⟩) W.place.length cL)
  fH : w.cell? ⟨p, 3, none⟩ = some (.slice (some ⟨gH, 0, none⟩) W.has.length cH)
  fS : w.cell? ⟨p, 4, none⟩ = some (.slice (some ⟨gS, 0, none⟩) W.set.length cS)
  fG : w.cell? ⟨p, 5, none⟩ = some (.slice aG W.log.length cG)
  cB' : ∀ j x, W.born[j]? = some x → w.cell? ⟨gB, j, none⟩ = some (.bool x)
  cL' : ∀ (j : Nat) (x : Nat), W.place[j]? = some x → w.cell? ⟨gL, j, none⟩ = some (.int .i64 (x : Int))
  cH' : ∀ j x, W.has[j]? = some x → w.cell? ⟨gH, j, none⟩ = some (.string (hasS x))
  cS' : ∀ j x, W.set[j]? = some x → w.cell? ⟨gS, j, none⟩ = some (.bool x)
  cP' : ∀ t l, W.prog[t]? = some l → ∃ a c, w.cell? ⟨gP, t, none⟩ = some (.slice a l.length c) ∧ (l ≠ [] → ∃ g, a = some ⟨g, 0, none⟩ ∧ ∀ j x, l[j]? = some x → w.cell? ⟨g, j, none⟩ = some (.string x))
  cG' : W.log ≠ [] → ∃ g, aG = some ⟨g, 0, none⟩ ∧ ∀ j x, W.log[j]? = some x → w.cell? ⟨g, 4 * j, none⟩ = some (.int .i64 x.thread) ∧ w.cell? ⟨g, 4 * j + 1, none⟩ = some (.int .i64 x.place) ∧ w.cell? ⟨g, 4 * j + 2, none⟩ = some (.string x.txt) ∧ w.cell? ⟨g, 4 * j + 3, none⟩ = some (.string x.holds)

/-- The slice of a row that is not empty lies somewhere. -/
theorem ownsRow_form {w : World} {B : Nat} {e : TypeId} {size n : Nat} {v : Value} {xs : List Value} (h : w.ownsRow B e size v n xs) (hn : n ≠ 0) :
    ∃ g cap, v = .slice (some ⟨g, 0, none⟩) n cap ∧ B ≤ g ∧ g < w.heap.size ∧ ∀ j x, xs[j]? = some x → w.cell? ⟨g, j, none⟩ = some x := by
  rcases h.2 with ⟨_, h0⟩ | ⟨g, cap, cur, hv, hb, hg, _⟩
  · exact absurd h0 hn
  · refine ⟨g, cap, hv, hb, (Array.getElem?_eq_some_iff.1 hg).1, fun j x hx => ?_⟩
    have hj : j < n * size := by rw [← h.1]; exact (List.getElem?_eq_some_iff.1 hx).1
    rw [hv] at h
    rw [h.cellAt j hj, hx]

theorem flat_ev : ∀ (l : List Ev) (j : Nat) (x : Ev), l[j]? = some x →
    (l.flatMap evCells)[4 * j]? = some (.int .i64 x.thread) ∧ (l.flatMap evCells)[4 * j + 1]? = some (.int .i64 x.place) ∧ (l.flatMap evCells)[4 * j + 2]? = some (.string x.txt) ∧ (l.flatMap evCells)[4 * j + 3]? = some (.string x.holds)
  | [], _, _, h => by simp at h
  | a :: l, 0, x, h => by
    simp at h; subst h
    simp [evCells]
  | a :: l, j + 1, x, h => by
    have := flat_ev l j x (by simpa using h)
    have e : 4 * (j + 1) = 4 * j + 4 := by omega
    rw [e]
    simpa [evCells] using this

theorem rowsS_mem : ∀ (L : List (List ByteArray)) (vs : List Value) (t : Nat) (l : List ByteArray), vs.length = L.length → L[t]? = some l → ∃ v, vs[t]? = some v ∧ (⟨9, 1, v, l.length, l.map Value.string⟩ : RowD) ∈ rowsS L vs
  | [], _, _, _, _, h => by simp at h
  | _ :: _, [], _, _, h, _ => by simp at h
  | a :: L, b :: vs, 0, l, _, h => by
    simp at h; subst h
    exact ⟨b, rfl, List.mem_cons_self ..⟩
  | a :: L, b :: vs, t + 1, l, hl, h => by
    obtain ⟨v, h1, h2⟩ := rowsS_mem L vs t l (by simpa using hl) (by simpa using h)
    exact ⟨v, by simpa using h1, List.mem_cons_of_mem _ h2⟩

/-- The shape of a world that the reference makes: as many places as threads, six locks, six flags. -/
structure Wd.Ok (W : Wd) : Prop where
  np : W.prog.length ≠ 0
  nb : W.born.length = W.prog.length
  nl : W.place.length = W.prog.length
  nh : W.has.length = 6
  ns : W.set.length = 6

theorem RepW.wIn {w : World} {B p : Nat} {W : Wd} (h : RepW w B p W) (ok : W.Ok) : ∃ gP cP gB cB gL cL gH cH gS cS aG cG, WIn w p W gP cP gB cB gL cL gH cH gS cS aG cG := by
  obtain ⟨v, inner, hl, hf⟩ := h
  have o0 := hf.own (r := ⟨85, 1, .slice (some ⟨p, 0, none⟩) 6 6, 6, [v.P, v.B, v.L, v.H, v.S, v.G]⟩) (by simp [famW])
  have o1 := hf.own (r := ⟨4, 1, v.B, W.born.length, W.born.map Value.bool⟩) (by simp [famW])
  have o2 := hf.own (r := ⟨3, 1, v.L, W.place.length, placeCells W.place⟩) (by simp [famW])
  have o3 := hf.own (r := ⟨9, 1, v.H, W.has.length, hasCells W.has⟩) (by simp [famW])
  have o4 := hf.own (r := ⟨4, 1, v.S, W.set.length, W.set.map Value.bool⟩) (by simp [famW])
  have o5 := hf.own (r := ⟨128, 4, v.G, W.log.length, W.log.flatMap evCells⟩) (by simp [famW])
  have o6 := hf.own (r := ⟨76, 1, v.P, W.prog.length, inner⟩) (by simp [famW])
  simp only at o0 o1 o2 o3 o4 o5 o6
  obtain ⟨gB, cB, eB, _, _, kB⟩ := ownsRow_form o1 (by have := ok.nb; have := ok.np; omega)
  obtain ⟨gL, cL, eL, _, _, kL⟩ := ownsRow_form o2 (by have := ok.nl; have := ok.np; omega)
  obtain ⟨gH, cH, eH, _, _, kH⟩ := ownsRow_form o3 (by have := ok.nh; omega)
  obtain ⟨gS, cS, eS, _, _, kS⟩ := ownsRow_form o4 (by have := ok.ns; omega)
  obtain ⟨gP, cP, eP, _, _, kP⟩ := ownsRow_form o6 ok.np
  have hG : ∃ aG cG, v.G = .slice aG W.log.length cG ∧ (W.log ≠ [] → ∃ g, aG = some ⟨g, 0, none⟩ ∧ ∀ j x, (W.log.flatMap evCells)[j]? = some x → w.cell? ⟨g, j, none⟩ = some x) := by
    by_cases h0 : W.log.length = 0
    · rcases o5.2 with ⟨hv, _⟩ | ⟨g, cap, cur, hv, _⟩
      · exact ⟨none, 0, by rw [hv, h0], fun h => absurd (List.length_eq_zero_iff.1 h0) h⟩
      · exact ⟨_, cap, hv, fun h => absurd (List.length_eq_zero_iff.1 h0) h⟩
    · obtain ⟨g, cap, e, _, _, k⟩ := ownsRow_form o5 h0
      exact ⟨_, cap, e, fun _ => ⟨g, rfl, k⟩⟩
  obtain ⟨aG, cG, eG, kG⟩ := hG
  have c := fun j x (hx : [v.P, v.B, v.L, v.H, v.S, v.G][j]? = some x) => (o0.cellAt j (by have := (List.getElem?_eq_some_iff.1 hx).1; simpa using this)).trans hx
  refine ⟨gP, cP, gB, cB, gL, cL, gH, cH, gS, cS, aG, cG, ?_, ?_, ?_, ?_, ?_, ?_, ?_, ?_, ?_, ?_, ?_, ?_⟩
  · rw [c 0 _ rfl, eP]
  · rw [c 1 _ rfl, eB]
  · rw [c 2 _ rfl, eL]
  · rw [c 3 _ rfl, eH]
  · rw [c 4 _ rfl, eS]
  · rw [c 5 _ rfl, eG]
  · intro j x hx; exact kB j _ (by simp [hx])
  · intro j x hx; exact kL j _ (by simp [placeCells, hx])
  · intro j x hx; exact kH j _ (by simp [hasCells, hx])
  · intro j x hx; exact kS j _ (by simp [hx])
  · intro t l hx
    obtain ⟨u, h1, h2⟩ := rowsS_mem W.prog inner t l hl hx
    have o7 := hf.own (r := ⟨9, 1, u, l.length, l.map Value.string⟩) (by simp [famW, h2])
    simp only at o7
    have hc := kP t u h1
    by_cases h0 : l.length = 0
    · rcases o7.2 with ⟨hv, _⟩ | ⟨g, cap, cur, hv, _⟩
      · exact ⟨none, 0, by rw [hc, hv, h0], fun h => absurd (List.length_eq_zero_iff.1 h0) h⟩
      · exact ⟨_, cap, by rw [hc, hv], fun h => absurd (List.length_eq_zero_iff.1 h0) h⟩
    · obtain ⟨g, cap, e, _, _, k⟩ := ownsRow_form o7 h0
      exact ⟨_, cap, by rw [hc, e], fun _ => ⟨g, rfl, fun j x hx => k j _ (by simp [hx])⟩⟩
  · intro h
    obtain ⟨g, e, k⟩ := kG h
    refine ⟨g, e, fun j x hx => ?_⟩
    obtain ⟨a, b, c, d⟩ := flat_ev W.log j x hx
    exact ⟨k _ _ a, k _ _ b, k _ _ c, k _ _ d⟩

theorem WIn.below {w w' : World} {p : Nat} {W : Wd} {gP cP gB cB gL cL gH cH gS cS : Nat} {aG : Option Addr} {cG : Nat} (h : WIn w p W gP cP gB cB gL cL gH cH gS cS aG cG) (hb : Below w.heap.size w w') : WIn w' p W gP cP gB cB gL cL gH cH gS cS aG cG := by
  have k : ∀ a v, w.cell? a = some v → w'.cell? a = some v := fun a v hc => by
    rw [hb.cell (World.block_lt_of_cell? w _ hc)]; exact hc
  refine ⟨k _ _ h.fP, k _ _ h.fB, k _ _ h.fL, k _ _ h.fH, k _ _ h.fS, k _ _ h.fG, fun j x hx => k _ _ (h.cB' j x hx), fun j x hx => k _ _ (h.cL' j x hx), fun j x hx => k _ _ (h.cH' j x hx), fun j x hx => k _ _ (h.cS' j x hx), fun t l hx => ?_, fun hn => ?_⟩
  · obtain ⟨a, c, h1, h2⟩ := h.cP' t l hx
    exact ⟨a, c, k _ _ h1, fun hl => let ⟨g, e, h3⟩ := h2 hl; ⟨g, e, fun j x hx => k _ _ (h3 j x hx)⟩⟩
  · obtain ⟨g, e, h2⟩ := h.cG' hn
    exact ⟨g, e, fun j x hx => let ⟨a, b, c, d⟩ := h2 j x hx; ⟨k _ _ a, k _ _ b, k _ _ c, k _ _ d⟩⟩
end Go.Proofs.Ytfdbnilopfnifaa
