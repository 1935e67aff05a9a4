import Derived.Test.YtdfndcbakcmgiabDoorB4
namespace Go.Proofs.YtdfndcbakcmgiabDoor
open Go.RowKit

/-- Where the number c stands in the row f, f + 1, .. of m numbers. -/
def atR (f m c : Int) : Int := if f ≤ c ∧ c < f + m then c - f else -1

theorem atFrom_range (s : ByteArray) (c : UInt8) (f : Nat) (hf : ∀ j (h : j < s.size), s[j].toNat = f + j) :
    ∀ (n k : Nat), s.size - k = n → (k : Int) ≤ s.size → atFrom s c k = if (f + k : Int) ≤ c.toNat ∧ (c.toNat : Int) < f + s.size then (c.toNat : Int) - f else -1 := by
  intro n
  induction n with
  | zero =>
    intro k hk hle
    rw [atFrom, dif_neg (by omega), if_neg (by omega)]
  | succ n ih =>
    intro k hk hle
    have hlt : k < s.size := by omega
    rw [atFrom, dif_pos hlt]
    by_cases he : s[k] = c
    · rw [if_pos he]
      have := hf k hlt
      rw [he] at this
      rw [if_pos (by omega)]
      omega
    · rw [if_neg he, ih (k + 1) (by omega) (by omega)]
      have hne : s[k].toNat ≠ c.toNat := fun h => he (UInt8.toNat_inj.1 h)
      rw [hf k hlt] at hne
      by_cases hc : (f + k : Int) ≤ c.toNat ∧ (c.toNat : Int) < f + s.size
      · rw [if_pos hc, if_pos (by omega)]
      · rw [if_neg hc, if_neg (by omega)]

def lockS : ByteArray := ⟨#[97, 98, 99, 100, 101, 102]⟩
def giveS : ByteArray := ⟨#[65, 66, 67, 68, 69, 70]⟩
def flagS : ByteArray := ⟨#[117, 118, 119, 120, 121, 122]⟩
def digitS : ByteArray := ⟨#[48, 49, 50, 51, 52, 53, 54, 55, 56, 57]⟩
theorem lockS_row : ∀ j (h : j < lockS.size), lockS[j].toNat = 97 + j := by decide
theorem giveS_row : ∀ j (h : j < giveS.size), giveS[j].toNat = 65 + j := by decide
theorem flagS_row : ∀ j (h : j < flagS.size), flagS[j].toNat = 117 + j := by decide
theorem digitS_row : ∀ j (h : j < digitS.size), digitS[j].toNat = 48 + j := by decide

/-- 'at' of a number in a constant string. -/
def atI (s : ByteArray) (n : Int) : Int := atFrom s (UInt8.ofNat n.toNat) 0
theorem atI_row (s : ByteArray) (n : Int) (f : Nat) (hf : ∀ j (h : j < s.size), s[j].toNat = f + j) (h0 : 0 ≤ n) (h1 : n ≤ 255) : atI s n = atR f s.size n := by
  have hc : ((UInt8.ofNat n.toNat).toNat : Int) = n := by
    rw [UInt8.toNat_ofNat']
    omega
  rw [atI, atFrom_range s _ f hf _ 0 rfl (by omega), hc, atR]
  simp
theorem atI_lock {n : Int} (h0 : 0 ≤ n) (h1 : n ≤ 255) : atI ⟨#[97, 98, 99, 100, 101, 102]⟩ n = atR 97 6 n := atI_row lockS n 97 lockS_row h0 h1
theorem atI_give {n : Int} (h0 : 0 ≤ n) (h1 : n ≤ 255) : atI ⟨#[65, 66, 67, 68, 69, 70]⟩ n = atR 65 6 n := atI_row giveS n 65 giveS_row h0 h1
theorem atI_flag {n : Int} (h0 : 0 ≤ n) (h1 : n ≤ 255) : atI ⟨#[117, 118, 119, 120, 121, 122]⟩ n = atR 117 6 n := atI_row flagS n 117 flagS_row h0 h1
theorem atI_digit {n : Int} (h0 : 0 ≤ n) (h1 : n ≤ 255) : atI ⟨#[48, 49, 50, 51, 52, 53, 54, 55, 56, 57]⟩ n = atR 48 10 n := atI_row digitS n 48 digitS_row h0 h1
theorem atR_yes {f m n : Int} (h1 : f ≤ n) (h2 : n < f + m) : atR f m n = n - f := by rw [atR, if_pos ⟨h1, h2⟩]
theorem atR_no {f m n : Int} (h : n < f ∨ f + m ≤ n) : atR f m n = -1 := by rw [atR, if_neg (by omega)]

/-- What may stand behind the byte c. -/
def nx (may c : Int) : Int :=
  if may = 1 then (if 117 ≤ c ∧ c ≤ 122 then 0 else -1)
  else if may = 2 then (if 117 ≤ c ∧ c ≤ 122 then 3 else -1)
  else if may = 3 then (if 49 ≤ c ∧ c ≤ 57 then 0 else -1)
  else if may = 4 then (if 48 ≤ c ∧ c ≤ 57 then 0 else -1)
  else if c = 33 ∨ c = 126 then 1
  else if c = 63 then 2
  else if c = 60 ∨ c = 62 then 4
  else if c = 46 ∨ c = 59 ∨ (97 ≤ c ∧ c ≤ 102) ∨ (65 ≤ c ∧ c ≤ 70) then 0
  else -1

theorem nx_range (may c : Int) : -1 ≤ nx may c ∧ nx may c ≤ 4 := by
  unfold nx
  repeat' split
  all_goals omega

end Go.Proofs.YtdfndcbakcmgiabDoor
namespace Go.Proofs.YtdfndcbakcmgiabDoor
open Go.RowKit

/-- The place at which a text is no program, or -1. -/
def badLoop (s : ByteArray) (may : Int) (k : Nat) : Int :=
  if k < s.size then (if nx may (byteI s k) < 0 then (k : Int) else badLoop s (nx may (byteI s k)) (k + 1))
  else if may ≠ 0 then (s.size : Int) else -1
termination_by s.size - k

theorem below_app {B : Nat} {w wr w2 : World} {v : Value} {e : TypeId} {size n : Nat} {xs : List Value} (hB : Below B w wr) (hsz : B ≤ wr.heap.size) (o : Obj) (hg : (wr.alloc o).grownBy w2 v.ownBlock) (hown : wr.ownsRow B e size v n xs) : Below B w w2 :=
  (hB.alloc hsz o).grown hg (by simp; omega) (fun k hk => (hown.lt k hk).1)

/-- The texts of the threads. -/
def thLoop (s : ByteArray) (frm k : Nat) (done : List ByteArray) : List ByteArray :=
  if k < s.size then
    (if byteI s k = 59 then thLoop s (k + 1) (k + 1) (done ++ [s.extract frm k]) else thLoop s frm (k + 1) done)
  else done ++ [s.extract frm s.size]
termination_by s.size - k

theorem infoString : (Tryd.prog.info? 9).map (fun i => (i.zero, i.size, i.bytes)) = some (some (.string ⟨#[]⟩), 1, 16) := by kernel_rfl

/-- How many bytes an instruction has that begins with this one. -/
def wid (c : Int) : Nat := if c = 33 ∨ c = 126 ∨ c = 60 ∨ c = 62 then 2 else if c = 63 then 3 else 1
theorem wid_range (c : Int) : 1 ≤ wid c ∧ wid c ≤ 3 := by unfold wid; split <;> (try split) <;> omega
/-- The end of the instruction that begins at a place. -/
def stEnd (s : ByteArray) (i : Nat) : Nat := if s.size < i + wid (byteI s i) then s.size else i + wid (byteI s i)
/-- The instructions of a thread. -/
def stLoop (s : ByteArray) (i : Nat) (done : List ByteArray) : List ByteArray :=
  if _h : i < s.size then stLoop s (stEnd s i) (done ++ [s.extract i (stEnd s i)]) else done
termination_by s.size - i
decreasing_by
  have := wid_range (byteI s i)
  unfold stEnd
  split <;> omega

end Go.Proofs.YtdfndcbakcmgiabDoor
namespace Go.Proofs.YtdfndcbakcmgiabDoor
open Go.RowKit

theorem thLoop_len (s : ByteArray) : ∀ (n frm k : Nat) (done : List ByteArray), s.size - k = n → (thLoop s frm k done).length ≤ done.length + 1 + (s.size - k) := by
  intro n
  induction n with
  | zero => intro frm k done h; rw [thLoop, if_neg (by omega)]; simp
  | succ n ih =>
    intro frm k done h
    rw [thLoop, if_pos (by omega)]
    split
    · have := ih (k + 1) (k + 1) (done ++ [s.extract frm k]) (by omega)
      simp at this; omega
    · have := ih frm (k + 1) done (by omega)
      omega
theorem thLoop_size (s : ByteArray) : ∀ (n frm k : Nat) (done : List ByteArray), s.size - k = n → (∀ x ∈ done, x.size ≤ s.size) → ∀ x ∈ thLoop s frm k done, x.size ≤ s.size := by
  intro n
  induction n with
  | zero =>
    intro frm k done h hd x hx
    rw [thLoop, if_neg (by omega)] at hx
    rcases List.mem_append.1 hx with hx | hx
    · exact hd x hx
    · simp at hx; subst hx; rw [ByteArray.size_extract]; omega
  | succ n ih =>
    intro frm k done h hd x hx
    rw [thLoop, if_pos (by omega)] at hx
    split at hx
    · refine ih (k + 1) (k + 1) _ (by omega) ?_ x hx
      intro y hy
      rcases List.mem_append.1 hy with hy | hy
      · exact hd y hy
      · simp at hy; subst hy; rw [ByteArray.size_extract]; omega
    · exact ih frm (k + 1) done (by omega) hd x hx

/-- Strings in a slice, as they are read. -/
def StrsIn (w : World) (B : Nat) (g : Nat) (l : List ByteArray) : Prop := B ≤ g ∧ g < w.heap.size ∧ ∀ j x, l[j]? = some x → w.cell? ⟨g, j, none⟩ = some (.string x)
theorem StrsIn.below {w w' : World} {B g : Nat} {l : List ByteArray} (h : StrsIn w B g l) (hb : Below w.heap.size w w') : StrsIn w' B g l :=
  ⟨h.1, Nat.lt_of_lt_of_le h.2.1 hb.size, fun j x hx => by rw [hb.cell (p := ⟨g, j, none⟩) h.2.1]; exact h.2.2 j x hx⟩
theorem strs_of_own {w : World} {B : Nat} {v : Value} {l : List ByteArray} (h : w.ownsRow B 9 1 v l.length (l.map Value.string)) (hn : v.ownBlock ≠ none) : ∃ g cap, v = .slice (some ⟨g, 0, none⟩) l.length cap ∧ StrsIn w B g l := by
  obtain ⟨g, cap, hv, hB, hlt⟩ := RowD.at.form (r := ⟨9, 1, v, l.length, l.map Value.string⟩) ⟨h, hn⟩
  have hv' : v = .slice (some ⟨g, 0, none⟩) l.length cap := hv
  refine ⟨g, cap, hv', hB, hlt, fun j x hx => ?_⟩
  rw [hv'] at h
  have hj : j < l.length := (List.getElem?_eq_some_iff.1 hx).1
  rw [h.cellAt j (by omega)]
  simp [hx]

def ckExtra (l : List ByteArray) (t : Nat) : Int :=
  if h : t < l.length then (if 5 ≤ t ∨ 12 < (stLoop l[t] 0 []).length then (t : Int) else ckExtra l (t + 1)) else -1
termination_by l.length - t
def ckStray (s : ByteArray) (n : Nat) (i : Nat) : Int :=
  if i < s.size then (if (byteI s (i - 1) = 60 ∨ byteI s (i - 1) = 62) ∧ (n : Int) ≤ (byteI s i - 48) % 256 then (i : Int) else ckStray s n (i + 1)) else -1
termination_by s.size - i
def ckEnd (s : ByteArray) (l : List ByteArray) : Int × Int :=
  if ckExtra l 0 ≠ -1 then (3, ckExtra l 0)
  else if ckStray s l.length 1 ≠ -1 then (4, ckStray s l.length 1)
  else (0, 0)
def ckP (s : ByteArray) : Int × Int :=
  if 160 < s.size then (1, 0)
  else if 0 ≤ badLoop s 0 0 then (2, badLoop s 0 0)
  else ckEnd s (thLoop s 0 0 [])

theorem ckExtra_pos (l : List ByteArray) : ∀ (n t : Nat), l.length - t = n → -1 ≤ ckExtra l t := by
  intro n
  induction n with
  | zero => intro t h; rw [ckExtra, dif_neg (by omega)]; omega
  | succ n ih =>
    intro t h
    rw [ckExtra, dif_pos (by omega)]
    split
    · omega
    · exact ih (t + 1) (by omega)

end Go.Proofs.YtdfndcbakcmgiabDoor
namespace Go.Proofs.YtdfndcbakcmgiabDoor
open Go.RowKit

/-! Plain facts: the two readings of a text agree. -/

theorem byteI_extract (s : ByteArray) (a b i : Nat) (hb : b ≤ s.size) : byteI (s.extract a b) i = if a + i < b then byteI s (a + i) else 0 := by
  unfold byteI
  by_cases h : a + i < b
  · have h1 : i < (s.extract a b).size := by rw [ByteArray.size_extract]; omega
    have h2 : a + i < s.size := by omega
    rw [dif_pos h1, if_pos h, dif_pos h2, ByteArray.getElem_extract]
  · have h1 : ¬ i < (s.extract a b).size := by rw [ByteArray.size_extract]; omega
    rw [dif_neg h1, if_neg h]

theorem extract_extract (s : ByteArray) (a b i j : Nat) (hj : a + j ≤ b) : (s.extract a b).extract i j = s.extract (a + i) (a + j) := by
  apply ByteArray.ext
  simp only [ByteArray.data_extract, Array.extract_extract]
  congr 1
  omega

/-- The step that an instruction's text is. -/
def stpOf (d : ByteArray) : Stp :=
  if byteI d 0 = 46 then ⟨0, 0, 0⟩
  else if 97 ≤ byteI d 0 ∧ byteI d 0 ≤ 102 then ⟨1, byteI d 0 - 97, 0⟩
  else if 65 ≤ byteI d 0 ∧ byteI d 0 ≤ 70 then ⟨2, byteI d 0 - 65, 0⟩
  else if byteI d 0 = 33 then ⟨3, byteI d 1 - 117, 0⟩
  else if byteI d 0 = 126 then ⟨4, byteI d 1 - 117, 0⟩
  else if byteI d 0 = 63 then ⟨5, byteI d 1 - 117, byteI d 2 - 48⟩
  else if byteI d 0 = 62 then ⟨6, byteI d 1 - 48, 0⟩
  else ⟨7, byteI d 1 - 48, 0⟩

theorem byteI_pos {s : ByteArray} {k : Nat} (h : byteI s k ≠ 0) : k < s.size := by
  unfold byteI at h
  split at h
  · assumption
  · exact absurd rfl h

/-- What is known of a step that could be read. -/
structure Good (s : ByteArray) (k : Nat) (x : Stp) (n : Nat) : Prop where
  nxt : n = k + wid (byteI s k)
  le : n ≤ s.size
  stp : x = stpOf (s.extract k n)
  nosemi : ∀ j, k ≤ j → j < n → byteI s j ≠ 59
  bad : badLoop s 0 k = badLoop s 0 n

theorem badLoop_step (s : ByteArray) (may : Int) (k : Nat) (hk : k < s.size) (m : Int) (h : nx may (byteI s k) = m) (hm : 0 ≤ m) : badLoop s may k = badLoop s m (k + 1) := by
  rw [badLoop, if_pos hk, h, if_neg (by omega)]
theorem badLoop_stop (s : ByteArray) (may : Int) (k : Nat) (hm : may ≠ 0) (hle : k ≤ s.size) (h : nx may (byteI s k) < 0) : badLoop s may k = k := by
  by_cases hk : k < s.size
  · rw [badLoop, if_pos hk, if_pos h]
  · rw [badLoop, if_neg hk, if_pos hm]; omega
theorem badLoop_stop0 (s : ByteArray) (k : Nat) (hk : k < s.size) (h : nx 0 (byteI s k) < 0) : badLoop s 0 k = k := by
  rw [badLoop, if_pos hk, if_pos h]

theorem good_one (s : ByteArray) (k : Nat) (x : Stp) (hk : k < s.size) (hw : wid (byteI s k) = 1) (h59 : byteI s k ≠ 59) (hx : x = stpOf (s.extract k (k + 1))) (hn : nx 0 (byteI s k) = 0) : Good s k x (k + 1) where
  nxt := by rw [hw]
  le := by omega
  stp := hx
  nosemi := fun j h1 h2 => by have : j = k := by omega
                              rw [this]; exact h59
  bad := badLoop_step s 0 k hk 0 hn (by omega)
theorem good_two (s : ByteArray) (k : Nat) (x : Stp) (m : Int) (hk : k < s.size) (hk1 : k + 1 < s.size) (hw : wid (byteI s k) = 2) (h59 : byteI s k ≠ 59) (h59' : byteI s (k + 1) ≠ 59) (hx : x = stpOf (s.extract k (k + 2)))
    (hn : nx 0 (byteI s k) = m) (hm : 0 ≤ m) (hn1 : nx m (byteI s (k + 1)) = 0) : Good s k x (k + 1 + 1) where
  nxt := by rw [hw]
  le := by omega
  stp := hx
  nosemi := fun j h1 h2 => by
    have : j = k ∨ j = k + 1 := by omega
    rcases this with h | h <;> rw [h] <;> assumption
  bad := by rw [badLoop_step s 0 k hk m hn hm, badLoop_step s m (k + 1) hk1 0 hn1 (by omega)]

theorem readNamed_good {s : ByteArray} {k : Nat} {kind f l : Int} (h : (readNamed s k kind f l).2.2 = true) : readNamed s k kind f l = (⟨kind, byteI s k - f, 0⟩, k + 1, true) ∧ f ≤ byteI s k ∧ byteI s k ≤ l := by
  unfold readNamed at h ⊢
  split at h
  · simp at h
  · rename_i h1; rw [if_neg h1]; exact ⟨rfl, by omega, by omega⟩
theorem readNamed_bad {s : ByteArray} {k : Nat} {kind f l : Int} (h : (readNamed s k kind f l).2.2 = false) : (readNamed s k kind f l).2.1 = k ∧ (byteI s k < f ∨ l < byteI s k) := by
  unfold readNamed at h ⊢
  split at h
  · rename_i h1; rw [if_pos h1]; exact ⟨rfl, h1⟩
  · simp at h

theorem wid_two {c : Int} (h : c = 33 ∨ c = 126 ∨ c = 60 ∨ c = 62) : wid c = 2 := by rw [wid, if_pos h]
theorem stpOf_extract (s : ByteArray) (k n : Nat) (hn : n ≤ s.size) (i : Nat) (h : k + i < n) : byteI (s.extract k n) i = byteI s (k + i) := by
  rw [byteI_extract s k n i hn, if_pos h]

theorem stpOf_extract0 (s : ByteArray) (k n : Nat) (hn : n ≤ s.size) (h : k < n) : byteI (s.extract k n) 0 = byteI s k := stpOf_extract s k n hn 0 h

theorem readStep_good (s : ByteArray) (k : Nat) (hk : k < s.size) (h59 : byteI s k ≠ 59) (h : (readStep s k).2.2 = true) : Good s k (readStep s k).1 (readStep s k).2.1 := by
  unfold readStep at h ⊢
  split at h
  · rename_i c
    rw [if_pos c]
    refine good_one s k _ hk (by rw [c]; rfl) h59 ?_ (by rw [c]; rfl)
    rw [stpOf, stpOf_extract0 s k (k + 1) (by omega) (by omega), if_pos c]
  rename_i c1
  rw [if_neg c1]
  split at h
  · rename_i c
    rw [if_pos c]
    rw [(readNamed_good h).1]
    refine good_one s k _ hk ?_ h59 ?_ ?_
    · rw [wid, if_neg (by omega), if_neg (by omega)]
    · rw [stpOf, stpOf_extract0 s k (k + 1) (by omega) (by omega), if_neg c1, if_pos c]
    · unfold nx; simp only [show ¬ ((0 : Int) = 1) by omega, show ¬ ((0 : Int) = 2) by omega, show ¬ ((0 : Int) = 3) by omega, show ¬ ((0 : Int) = 4) by omega, if_false]
      rw [if_neg (by omega), if_neg (by omega), if_neg (by omega), if_pos (by omega)]
  rename_i c2
  rw [if_neg c2]
  split at h
  · rename_i c
    rw [if_pos c]
    rw [(readNamed_good h).1]
    refine good_one s k _ hk ?_ h59 ?_ ?_
    · rw [wid, if_neg (by omega), if_neg (by omega)]
    · rw [stpOf, stpOf_extract0 s k (k + 1) (by omega) (by omega), if_neg c1, if_neg c2, if_pos c]
    · unfold nx; simp only [show ¬ ((0 : Int) = 1) by omega, show ¬ ((0 : Int) = 2) by omega, show ¬ ((0 : Int) = 3) by omega, show ¬ ((0 : Int) = 4) by omega, if_false]
      rw [if_neg (by omega), if_neg (by omega), if_neg (by omega), if_pos (by omega)]
  rename_i c3
  rw [if_neg c3]
  split at h
  · rename_i c
    rw [if_pos c]
    obtain ⟨he, l1, l2⟩ := readNamed_good h
    rw [he]
    have hk1 : k + 1 < s.size := byteI_pos (by omega)
    refine good_two s k _ 1 hk hk1 (wid_two (by omega)) h59 (by omega) ?_ (by rw [c]; rfl) (by omega) ?_
    · rw [stpOf, stpOf_extract0 s k (k + 2) (by omega) (by omega), stpOf_extract s k (k + 2) (by omega) 1 (by omega), if_neg c1, if_neg c2, if_neg c3, if_pos c]
    · rw [nx, if_pos rfl, if_pos ⟨l1, l2⟩]
  rename_i c4
  rw [if_neg c4]
  split at h
  · rename_i c
    rw [if_pos c]
    obtain ⟨he, l1, l2⟩ := readNamed_good h
    rw [he]
    have hk1 : k + 1 < s.size := byteI_pos (by omega)
    refine good_two s k _ 1 hk hk1 (wid_two (by omega)) h59 (by omega) ?_ (by rw [c]; rfl) (by omega) ?_
    · rw [stpOf, stpOf_extract0 s k (k + 2) (by omega) (by omega), stpOf_extract s k (k + 2) (by omega) 1 (by omega), if_neg c1, if_neg c2, if_neg c3, if_neg c4, if_pos c]
    · rw [nx, if_pos rfl, if_pos ⟨l1, l2⟩]
  rename_i c5
  rw [if_neg c5]
  split at h
  · rename_i c
    rw [if_pos c]
    unfold readSkip at h ⊢
    split at h
    · simp at h
    rename_i d1
    rw [if_neg d1]
    split at h
    · simp at h
    rename_i d2
    rw [if_neg d2]
    have hk1 : k + 1 < s.size := byteI_pos (by omega)
    have hk2 : k + 1 + 1 < s.size := byteI_pos (by omega)
    refine ⟨by rw [c]; rfl, by show k + 1 + 1 + 1 ≤ _; omega, ?_, ?_, ?_⟩
    · show _ = stpOf (s.extract k (k + 3))
      rw [stpOf, stpOf_extract0 s k (k + 3) (by omega) (by omega), stpOf_extract s k (k + 3) (by omega) 1 (by omega), stpOf_extract s k (k + 3) (by omega) 2 (by omega), if_neg c1, if_neg c2, if_neg c3, if_neg c4, if_neg c5, if_pos c]
    · intro j h1 h2
      have h2' : j < k + 1 + 1 + 1 := h2
      have hj : j = k ∨ j = k + 1 ∨ j = k + 1 + 1 := by omega
      rcases hj with h | h | h <;> rw [h] <;> omega
    · show _ = badLoop s 0 (k + 1 + 1 + 1)
      rw [badLoop_step s 0 k hk 2 (by rw [c]; rfl) (by omega), badLoop_step s 2 (k + 1) hk1 3 (by rw [nx, if_neg (by omega), if_pos rfl, if_pos (by omega)]) (by omega),
        badLoop_step s 3 (k + 1 + 1) hk2 0 (by rw [nx, if_neg (by omega), if_neg (by omega), if_pos rfl, if_pos (by omega)]) (by omega)]
  rename_i c6
  rw [if_neg c6]
  split at h
  · rename_i c
    rw [if_pos c]
    obtain ⟨he, l1, l2⟩ := readNamed_good h
    rw [he]
    have hk1 : k + 1 < s.size := byteI_pos (by omega)
    refine good_two s k _ 4 hk hk1 (wid_two (by omega)) h59 (by omega) ?_ (by rw [c]; rfl) (by omega) ?_
    · rw [stpOf, stpOf_extract0 s k (k + 2) (by omega) (by omega), stpOf_extract s k (k + 2) (by omega) 1 (by omega), if_neg c1, if_neg c2, if_neg c3, if_neg c4, if_neg c5, if_neg c6, if_pos c]
    · rw [nx, if_neg (by omega), if_neg (by omega), if_neg (by omega), if_pos rfl, if_pos ⟨l1, l2⟩]
  rename_i c7
  rw [if_neg c7]
  split at h
  · rename_i c
    rw [if_pos c]
    obtain ⟨he, l1, l2⟩ := readNamed_good h
    rw [he]
    have hk1 : k + 1 < s.size := byteI_pos (by omega)
    refine good_two s k _ 4 hk hk1 (wid_two (by omega)) h59 (by omega) ?_ (by rw [c]; rfl) (by omega) ?_
    · rw [stpOf, stpOf_extract0 s k (k + 2) (by omega) (by omega), stpOf_extract s k (k + 2) (by omega) 1 (by omega), if_neg c1, if_neg c2, if_neg c3, if_neg c4, if_neg c5, if_neg c6, if_neg c7]
    · rw [nx, if_neg (by omega), if_neg (by omega), if_neg (by omega), if_pos rfl, if_pos ⟨l1, l2⟩]
  · simp at h
end Go.Proofs.YtdfndcbakcmgiabDoor
namespace Go.Proofs.YtdfndcbakcmgiabDoor
open Go.RowKit

theorem readStep_bad (s : ByteArray) (k : Nat) (hk : k < s.size) (h59 : byteI s k ≠ 59) (h : (readStep s k).2.2 = false) : badLoop s 0 k = (readStep s k).2.1 := by
  unfold readStep at h ⊢
  split at h
  · simp at h
  rename_i c1
  rw [if_neg c1]
  split at h
  · have := (readNamed_bad h).2; omega
  rename_i c2
  rw [if_neg c2]
  split at h
  · have := (readNamed_bad h).2; omega
  rename_i c3
  rw [if_neg c3]
  split at h
  · rename_i c
    rw [if_pos c]
    obtain ⟨e, l⟩ := readNamed_bad h
    rw [e, badLoop_step s 0 k hk 1 (by rw [c]; rfl) (by omega)]
    exact badLoop_stop s 1 (k + 1) (by omega) (by omega) (by rw [nx, if_pos rfl, if_neg (by omega)]; omega)
  rename_i c4
  rw [if_neg c4]
  split at h
  · rename_i c
    rw [if_pos c]
    obtain ⟨e, l⟩ := readNamed_bad h
    rw [e, badLoop_step s 0 k hk 1 (by rw [c]; rfl) (by omega)]
    exact badLoop_stop s 1 (k + 1) (by omega) (by omega) (by rw [nx, if_pos rfl, if_neg (by omega)]; omega)
  rename_i c5
  rw [if_neg c5]
  split at h
  · rename_i c
    rw [if_pos c]
    rw [badLoop_step s 0 k hk 2 (by rw [c]; rfl) (by omega)]
    unfold readSkip at h ⊢
    split at h
    · rename_i d1
      rw [if_pos d1]
      exact badLoop_stop s 2 (k + 1) (by omega) (by omega) (by rw [nx, if_neg (by omega), if_pos rfl, if_neg (by omega)]; omega)
    rename_i d1
    rw [if_neg d1]
    have hk1 : k + 1 < s.size := byteI_pos (by omega)
    rw [badLoop_step s 2 (k + 1) hk1 3 (by rw [nx, if_neg (by omega), if_pos rfl, if_pos (by omega)]) (by omega)]
    split at h
    · rename_i d2
      rw [if_pos d2]
      exact badLoop_stop s 3 (k + 1 + 1) (by omega) (by omega) (by rw [nx, if_neg (by omega), if_neg (by omega), if_pos rfl, if_neg (by omega)]; omega)
    · simp at h
  rename_i c6
  rw [if_neg c6]
  split at h
  · rename_i c
    rw [if_pos c]
    obtain ⟨e, l⟩ := readNamed_bad h
    rw [e, badLoop_step s 0 k hk 4 (by rw [c]; rfl) (by omega)]
    exact badLoop_stop s 4 (k + 1) (by omega) (by omega) (by rw [nx, if_neg (by omega), if_neg (by omega), if_neg (by omega), if_pos rfl, if_neg (by omega)]; omega)
  rename_i c7
  rw [if_neg c7]
  split at h
  · rename_i c
    rw [if_pos c]
    obtain ⟨e, l⟩ := readNamed_bad h
    rw [e, badLoop_step s 0 k hk 4 (by rw [c]; rfl) (by omega)]
    exact badLoop_stop s 4 (k + 1) (by omega) (by omega) (by rw [nx, if_neg (by omega), if_neg (by omega), if_neg (by omega), if_pos rfl, if_neg (by omega)]; omega)
  rename_i c8
  rw [if_neg c8]
  refine badLoop_stop0 s k hk ?_
  unfold nx; simp only [show ¬ ((0 : Int) = 1) by omega, show ¬ ((0 : Int) = 2) by omega, show ¬ ((0 : Int) = 3) by omega, show ¬ ((0 : Int) = 4) by omega, if_false]
  rw [if_neg (by omega), if_neg (by omega), if_neg (by omega), if_neg (by omega)]
  omega

/-- The threads' texts as steps. -/
def parse (l : List ByteArray) : List (List Stp) := l.map fun th => (stLoop th 0 []).map stpOf

theorem thLoop_skip (s : ByteArray) (frm : Nat) (dn : List ByteArray) : ∀ (d k n : Nat), n = k + d → n ≤ s.size → (∀ j, k ≤ j → j < n → byteI s j ≠ 59) → thLoop s frm k dn = thLoop s frm n dn := by
  intro d
  induction d with
  | zero => intro k n h _ _; subst h; rfl
  | succ d ih =>
    intro k n h hn hs
    rw [thLoop, if_pos (by omega), if_neg (hs k (by omega) (by omega))]
    exact ih (k + 1) n (by omega) hn (fun j h1 h2 => hs j (by omega) h2)

theorem stLoop_end (s : ByteArray) (i : Nat) (dn : List ByteArray) (h : s.size ≤ i) : stLoop s i dn = dn := by rw [stLoop, dif_neg (by omega)]

theorem rt_main (s : ByteArray) : ∀ (n k frm : Nat) (dn : List ByteArray) (pre : List ByteArray), s.size - k = n → frm ≤ k → k ≤ s.size →
    (∀ e, k ≤ e → e ≤ s.size → stLoop (s.extract frm e) 0 [] = stLoop (s.extract frm e) (k - frm) pre) →
    match rtLoop s k (parse dn) (pre.map stpOf) with
    | .inr p => badLoop s 0 k = p
    | .inl L => badLoop s 0 k = -1 ∧ L = parse (thLoop s frm k dn) := by
  intro n
  induction n using Nat.strongRecOn with
  | ind n ih =>
    intro k frm dn pre hn hf hk hpre
    by_cases hlt : k < s.size
    · by_cases h59 : byteI s k = 59
      · have hr : rtLoop s k (parse dn) (pre.map stpOf) = rtLoop s (k + 1) (parse (dn ++ [s.extract frm k])) (([] : List ByteArray).map stpOf) := by
          rw [rtLoop, if_pos hlt, if_pos h59]
          have := hpre k (Nat.le_refl _) hk
          rw [stLoop_end _ (k - frm) pre (by rw [ByteArray.size_extract]; omega)] at this
          simp [parse, this]
        rw [hr]
        have hb : badLoop s 0 k = badLoop s 0 (k + 1) := badLoop_step s 0 k hlt 0 (by rw [h59]; rfl) (by omega)
        have ht : thLoop s frm k dn = thLoop s (k + 1) (k + 1) (dn ++ [s.extract frm k]) := by rw [thLoop, if_pos hlt, if_pos h59]
        rw [hb, ht]
        exact ih (s.size - (k + 1)) (by omega) (k + 1) (k + 1) _ [] rfl (by omega) (by omega) (fun e _ _ => by simp)
      · cases hok : (readStep s k).2.2 with
        | false =>
          have hr : rtLoop s k (parse dn) (pre.map stpOf) = .inr (readStep s k).2.1 := by
            rw [rtLoop, if_pos hlt, if_neg h59, dif_neg (by simp [hok])]
          rw [hr]
          exact readStep_bad s k hlt h59 hok
        | true =>
          have G := readStep_good s k hlt h59 hok
          have hr : rtLoop s k (parse dn) (pre.map stpOf) = rtLoop s (readStep s k).2.1 (parse dn) ((pre ++ [s.extract k (readStep s k).2.1]).map stpOf) := by
            rw [rtLoop, if_pos hlt, if_neg h59, dif_pos hok]
            simp [← G.stp]
          rw [hr]
          generalize (readStep s k).2.1 = nx at G
          have hw := wid_range (byteI s k)
          have hnx := G.nxt
          have hle := G.le
          rw [G.bad, thLoop_skip s frm dn (nx - k) k nx (by omega) hle G.nosemi]
          refine ih (s.size - nx) (by omega) nx frm dn _ rfl (by omega) hle ?_
          intro e he1 he2
          rw [hpre e (by omega) he2, stLoop, dif_pos (by rw [ByteArray.size_extract]; omega)]
          have hend : stEnd (s.extract frm e) (k - frm) = nx - frm := by
            have hby : byteI (s.extract frm e) (k - frm) = byteI s k := by
              have e0 : frm + (k - frm) = k := by omega
              rw [byteI_extract s frm e _ he2, if_pos (by omega), e0]
            rw [stEnd, hby, ByteArray.size_extract, if_neg (by omega)]
            omega
          rw [hend, extract_extract s frm e _ _ (by omega)]
          have e1 : frm + (k - frm) = k := by omega
          have e2 : frm + (nx - frm) = nx := by omega
          rw [e1, e2]
    · have hr : rtLoop s k (parse dn) (pre.map stpOf) = .inl (parse dn ++ [pre.map stpOf]) := by rw [rtLoop, if_neg hlt]
      rw [hr]
      have hke : k = s.size := by omega
      refine ⟨by rw [badLoop, if_neg hlt]; simp, ?_⟩
      rw [thLoop, if_neg hlt]
      have := hpre s.size (by omega) (Nat.le_refl _)
      rw [stLoop_end _ (k - frm) pre (by rw [ByteArray.size_extract]; omega)] at this
      simp [parse, this]

/-- Behind each '<' and '>' stands a digit. -/
theorem digits (s : ByteArray) : ∀ (n k : Nat) (may : Int), s.size - k = n → badLoop s may k = -1 → 0 ≤ may → may ≤ 4 → ∀ j, k ≤ j → (byteI s j = 60 ∨ byteI s j = 62) → j + 1 < s.size ∧ 48 ≤ byteI s (j + 1) ∧ byteI s (j + 1) ≤ 57 := by
  intro n
  induction n with
  | zero =>
    intro k may hn _ _ _ j hj hc
    have : j < s.size := byteI_pos (by omega)
    omega
  | succ n ih =>
    intro k may hn hb hm0 hm4 j hj hc
    have hlt : k < s.size := by omega
    have hr := nx_range may (byteI s k)
    rw [badLoop, if_pos hlt] at hb
    by_cases hneg : nx may (byteI s k) < 0
    · rw [if_pos hneg] at hb; omega
    · rw [if_neg hneg] at hb
      by_cases hjk : j = k
      · subst hjk
        have hm : may = 0 := by
          have hc2 : may = 0 ∨ may = 1 ∨ may = 2 ∨ may = 3 ∨ may = 4 := by omega
          rcases hc2 with h | h | h | h | h
          · exact h
          all_goals
            exfalso
            subst h
            unfold nx at hneg
            simp at hneg
            omega
        subst hm
        have h4 : nx 0 (byteI s j) = 4 := by
          rcases hc with h | h <;> rw [h] <;> rfl
        rw [h4] at hb
        by_cases hl : j + 1 < s.size
        · rw [badLoop, if_pos hl] at hb
          by_cases hn2 : nx 4 (byteI s (j + 1)) < 0
          · rw [if_pos hn2] at hb; omega
          · refine ⟨hl, ?_⟩
            unfold nx at hn2
            simp at hn2
            omega
        · rw [badLoop, if_neg hl, if_pos (by omega)] at hb
          omega
      · exact ih (k + 1) _ (by omega) hb (by omega) (by omega) j (by omega) hc

theorem fs_ck (s : ByteArray) (m : Nat) (hd : ∀ j, (byteI s j = 60 ∨ byteI s j = 62) → j + 1 < s.size ∧ 48 ≤ byteI s (j + 1) ∧ byteI s (j + 1) ≤ 57) :
    ∀ (n k : Nat), s.size - k = n → fs s m k = ckStray s m (k + 1) := by
  intro n
  induction n with
  | zero =>
    intro k hn
    rw [fs, if_neg (by omega), ckStray, if_neg (by omega)]
  | succ n ih =>
    intro k hn
    rw [fs, if_pos (by omega)]
    by_cases hc : byteI s k = 60 ∨ byteI s k = 62
    · obtain ⟨h1, h2, h3⟩ := hd k hc
      rw [if_neg (by omega), ckStray, if_pos h1, Nat.add_sub_cancel]
      have hmod : (byteI s (k + 1) - 48) % 256 = byteI s (k + 1) - 48 := by omega
      rw [hmod]
      by_cases hm : (m : Int) ≤ byteI s (k + 1) - 48
      · rw [if_pos hm, if_pos ⟨hc, hm⟩]
      · rw [if_neg hm, if_neg (fun h => hm h.2)]
        exact ih (k + 1) (by omega)
    · rw [if_pos (by omega)]
      by_cases hl : k + 1 < s.size
      · rw [ih (k + 1) (by omega)]
        conv => rhs; rw [ckStray]
        rw [if_pos hl, Nat.add_sub_cancel, if_neg (fun h => hc h.1)]
      · rw [fs, if_neg hl, ckStray, if_neg hl]

theorem fe_ck (l : List ByteArray) : ∀ (n t : Nat), l.length - t = n → fe (parse l) t = ckExtra l t := by
  intro n
  induction n with
  | zero =>
    intro t hn
    rw [fe, dif_neg (by simp [parse]; omega), ckExtra, dif_neg (by omega)]
  | succ n ih =>
    intro t hn
    have hlt : t < l.length := by omega
    rw [fe, dif_pos (by simpa [parse] using hlt), ckExtra, dif_pos hlt]
    have hl : (parse l)[t]'(by simpa [parse] using hlt) = (stLoop l[t] 0 []).map stpOf := by simp [parse]
    rw [hl, List.length_map, ih (t + 1) (by omega)]

/-- The program's reading and the reference's: the same threads, the same error. -/
theorem read_eq (s : ByteArray) : (readP s).2 = ckP s := by
  unfold readP ckP
  by_cases h160 : 160 < s.size
  · rw [if_pos h160, if_pos h160]
  rw [if_neg h160, if_neg h160]
  have h := rt_main s _ 0 0 [] [] rfl (Nat.le_refl _) (Nat.zero_le _) (fun e _ _ => by simp)
  simp only [parse, List.map_nil] at h
  cases hr : rtLoop s 0 [] [] with
  | inr p =>
    rw [hr] at h
    simp only at h
    rw [h, if_pos (by omega)]
  | inl L =>
    rw [hr] at h
    simp only at h
    obtain ⟨hb, hL⟩ := h
    have hL' : L = parse (thLoop s 0 0 []) := hL
    have hlen : L.length = (thLoop s 0 0 []).length := by rw [hL']; simp [parse]
    rw [if_neg (by omega), ckEnd]
    have hd := fun j => digits s _ 0 0 rfl hb (by omega) (by omega) j (Nat.zero_le _)
    simp only
    rw [hlen, fs_ck s _ hd _ 0 rfl, hL', fe_ck _ _ 0 rfl]
    split
    · rfl
    · split <;> rfl

theorem readP_threads (s : ByteArray) (h : (readP s).2.1 = 0) : (readP s).1 = parse (thLoop s 0 0 []) := by
  unfold readP at h ⊢
  by_cases h160 : 160 < s.size
  · rw [if_pos h160] at h; simp at h
  rw [if_neg h160] at h ⊢
  have hm := rt_main s _ 0 0 [] [] rfl (Nat.le_refl _) (Nat.zero_le _) (fun e _ _ => by simp)
  simp only [parse, List.map_nil] at hm
  cases hr : rtLoop s 0 [] [] with
  | inr p => rw [hr] at h; simp at h
  | inl L =>
    rw [hr] at hm h
    simp only at hm h ⊢
    split at h
    · simp at h
    rename_i h1
    rw [if_neg h1]
    split at h
    · simp at h
    rename_i h2
    rw [if_neg h2]
    exact hm.2
end Go.Proofs.YtdfndcbakcmgiabDoor
