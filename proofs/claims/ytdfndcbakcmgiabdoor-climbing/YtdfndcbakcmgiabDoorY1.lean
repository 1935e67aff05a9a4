import Derived.Test.YtdfndcbakcmgiabDoorD1
import Derived.Test.YtdfndcbakcmgiabDoorN1
import Derived.Test.YtdfndcbakcmgiabDoorL1
namespace Go.Proofs.YtdfndcbakcmgiabDoor

/-! Texts that are made of instructions, read again (pure). -/
inductive Ins
  | dot
  | take (k : Nat)
  | give (k : Nat)
  | start (u : Nat)
  | join (u : Nat)
def Ins.isT : Ins → Nat → Bool
  | .take j, k => decide (j = k)
  | _, _ => false
def Ins.isG : Ins → Nat → Bool
  | .give j, k => decide (j = k)
  | _, _ => false
theorem Ins.isT_iff {i : Ins} {k : Nat} : i.isT k = true ↔ i = .take k := by cases i <;> simp [Ins.isT]
theorem Ins.isG_iff {i : Ins} {k : Nat} : i.isG k = true ↔ i = .give k := by cases i <;> simp [Ins.isG]
def Ins.bs : Ins → List Nat
  | .dot => [46]
  | .take k => [97 + k]
  | .give k => [65 + k]
  | .start u => [62, 48 + u]
  | .join u => [60, 48 + u]
def Ins.Ok (n : Nat) : Ins → Prop
  | .dot => True
  | .take k => k < 6
  | .give k => k < 6
  | .start u => u < n
  | .join u => u < n
def bt (l : List Nat) : ByteArray := ⟨(l.map UInt8.ofNat).toArray⟩
def Ins.txt (i : Ins) : ByteArray := bt i.bs
def thB (T : List Ins) : List Nat := T.flatMap Ins.bs
def txL : List (List Ins) → List Nat
  | [] => []
  | [T] => thB T
  | T :: U :: P => thB T ++ 59 :: txL (U :: P)

theorem bt_size (l : List Nat) : (bt l).size = l.length := by simp [bt, ByteArray.size]
theorem bt_append (a b : List Nat) : bt a ++ bt b = bt (a ++ b) := by
  apply ByteArray.ext
  simp [bt]
theorem byteI_bt (l : List Nat) (k c : Nat) (h : l[k]? = some c) (hc : c < 256) : byteI (bt l) k = c := by
  obtain ⟨hk, e⟩ := List.getElem?_eq_some_iff.1 h
  have hk' : k < (bt l).size := by rw [bt_size]; exact hk
  rw [← byteI_in hk']
  show (((l.map UInt8.ofNat).toArray[k]'(by simpa using hk)).toNat : Int) = c
  simp only [List.getElem_toArray, List.getElem_map, e]
  rw [UInt8.toNat_ofNat']; omega
theorem bt_extract (l : List Nat) (i j : Nat) : (bt l).extract i j = bt ((l.drop i).take (j - i)) := by
  apply ByteArray.ext
  simp only [bt, ByteArray.data_extract]
  apply Array.ext'
  simp [List.map_take, List.map_drop]
theorem drop_cons {l : List Nat} {k c : Nat} {r : List Nat} (h : l.drop k = c :: r) : l[k]? = some c ∧ l.drop (k + 1) = r ∧ k < l.length := by
  have hk : k < l.length := by
    rcases Nat.lt_or_ge k l.length with h1 | h1
    · exact h1
    · rw [List.drop_of_length_le h1] at h; cases h
  rw [List.drop_eq_getElem_cons hk, List.cons.injEq] at h
  exact ⟨by rw [List.getElem?_eq_getElem hk, h.1], h.2, hk⟩
theorem drop_app {l a r : List Nat} {k : Nat} (h : l.drop k = a ++ r) : l.drop (k + a.length) = r := by
  rw [← List.drop_drop, h, List.drop_left]

/-- An instruction is read over. -/
theorem bad_ins {l : List Nat} {n : Nat} (hn : n ≤ 5) {i : Ins} (hi : i.Ok n) {k : Nat} {r : List Nat} (h : l.drop k = i.bs ++ r) : badLoop (bt l) 0 k = badLoop (bt l) 0 (k + i.bs.length) := by
  have one : ∀ c : Nat, l.drop k = c :: r → c < 256 → nx 0 c = 0 → badLoop (bt l) 0 k = badLoop (bt l) 0 (k + 1) := fun c h1 h2 h3 => by
    obtain ⟨h4, _, h5⟩ := drop_cons h1
    exact badLoop_step _ 0 k (by rw [bt_size]; exact h5) 0 (by rw [byteI_bt l k c h4 h2]; exact h3) (by decide)
  have two : ∀ c d : Nat, l.drop k = c :: d :: r → c < 256 → d < 256 → nx 0 c = 4 → nx 4 d = 0 → badLoop (bt l) 0 k = badLoop (bt l) 0 (k + 1 + 1) := fun c d h1 h2 h3 h6 h7 => by
    obtain ⟨h4, h8, h5⟩ := drop_cons h1
    obtain ⟨h9, _, h10⟩ := drop_cons h8
    rw [badLoop_step _ 0 k (by rw [bt_size]; exact h5) 4 (by rw [byteI_bt l k c h4 h2]; exact h6) (by decide)]
    exact badLoop_step _ 4 (k + 1) (by rw [bt_size]; exact h10) 0 (by rw [byteI_bt l (k + 1) d h9 h3]; exact h7) (by decide)
  cases i with
  | dot => exact one 46 h (by decide) (by decide)
  | take a =>
    have : a < 6 := hi
    refine one (97 + a) h (by omega) ?_
    unfold nx
    rw [if_neg (by decide), if_neg (by decide), if_neg (by decide), if_neg (by decide), if_neg (by omega), if_neg (by omega), if_neg (by omega), if_pos (by omega)]
  | give a =>
    have : a < 6 := hi
    refine one (65 + a) h (by omega) ?_
    unfold nx
    rw [if_neg (by decide), if_neg (by decide), if_neg (by decide), if_neg (by decide), if_neg (by omega), if_neg (by omega), if_neg (by omega), if_pos (by omega)]
  | start u =>
    have : u < n := hi
    refine two 62 (48 + u) h (by decide) (by omega) (by decide) ?_
    unfold nx
    rw [if_neg (by decide), if_neg (by decide), if_neg (by decide), if_pos rfl, if_pos (by omega)]
  | join u =>
    have : u < n := hi
    refine two 60 (48 + u) h (by decide) (by omega) (by decide) ?_
    unfold nx
    rw [if_neg (by decide), if_neg (by decide), if_neg (by decide), if_pos rfl, if_pos (by omega)]
theorem bad_th {l : List Nat} {n : Nat} (hn : n ≤ 5) : ∀ (T : List Ins), (∀ i ∈ T, i.Ok n) → ∀ (k : Nat) (r : List Nat), l.drop k = thB T ++ r → badLoop (bt l) 0 k = badLoop (bt l) 0 (k + (thB T).length)
  | [], _, k, r, _ => by simp [thB]
  | i :: T, hT, k, r, h => by
    have e : thB (i :: T) = i.bs ++ thB T := by simp [thB]
    rw [e, List.append_assoc] at h
    rw [bad_ins hn (hT i (List.mem_cons_self ..)) h, bad_th hn T (fun j hj => hT j (List.mem_cons_of_mem _ hj)) (k + i.bs.length) r (drop_app h), e, List.length_append, Nat.add_assoc]
theorem bad_all {l : List Nat} {n : Nat} (hn : n ≤ 5) : ∀ (P : List (List Ins)), P ≠ [] → (∀ T ∈ P, ∀ i ∈ T, i.Ok n) → ∀ k, l.drop k = txL P → badLoop (bt l) 0 k = -1
  | [], h, _, _, _ => absurd rfl h
  | [T], _, hT, k, h => by
    rw [bad_th hn T (hT T (List.mem_cons_self ..)) k [] (by rw [List.append_nil]; exact h)]
    have h2 := drop_app (l := l) (k := k) (a := thB T) (r := []) (by rw [List.append_nil]; exact h)
    rw [badLoop, if_neg (by rw [bt_size]; have := List.drop_eq_nil_iff.1 h2; omega), if_neg (by decide)]
  | T :: U :: P, _, hT, k, h => by
    rw [bad_th hn T (hT T (List.mem_cons_self ..)) k _ h]
    have h2 := drop_app h
    obtain ⟨h3, h4, h5⟩ := drop_cons h2
    rw [badLoop_step _ 0 _ (by rw [bt_size]; exact h5) 0 (by rw [byteI_bt l _ 59 h3 (by decide)]; decide) (by decide)]
    exact bad_all hn (U :: P) (by simp) (fun V hV => hT V (List.mem_cons_of_mem _ hV)) _ h4

theorem ins_bs_ne {n : Nat} (hn : n ≤ 5) {i : Ins} (hi : i.Ok n) : ∀ x ∈ i.bs, x ≠ 59 ∧ x < 256 := by
  intro x hx
  cases i <;> simp only [Ins.bs, List.mem_cons, List.not_mem_nil, or_false] at hx <;> simp only [Ins.Ok] at hi <;> omega
theorem thB_ne {n : Nat} (hn : n ≤ 5) {T : List Ins} (hT : ∀ i ∈ T, i.Ok n) : ∀ x ∈ thB T, x ≠ 59 ∧ x < 256 := by
  intro x hx
  obtain ⟨i, hi, hx⟩ := List.mem_flatMap.1 hx
  exact ins_bs_ne hn (hT i hi) x hx
theorem th_skip {l a r : List Nat} {k : Nat} (h : l.drop k = a ++ r) (hk : k ≤ l.length) (ha : ∀ x ∈ a, x ≠ 59 ∧ x < 256) (dn : List ByteArray) : thLoop (bt l) k k dn = thLoop (bt l) k (k + a.length) dn := by
  have hlen : k + a.length ≤ l.length := by
    have := congrArg List.length h
    rw [List.length_drop, List.length_append] at this
    omega
  refine thLoop_skip (bt l) k dn a.length k _ rfl (by rw [bt_size]; exact hlen) fun j h1 h2 => ?_
  have hj : l[j]? = a[j - k]? := by
    have : (l.drop k)[j - k]? = l[j]? := by rw [List.getElem?_drop]; congr 1; omega
    rw [← this, h, List.getElem?_append_left (by omega)]
  obtain ⟨x, hx⟩ := get_some a (j - k) (by omega)
  obtain ⟨h3, h4⟩ := ha x (List.mem_of_getElem? hx)
  rw [byteI_bt l j x (by rw [hj]; exact hx) h4]
  omega
theorem th_all {l : List Nat} {n : Nat} (hn : n ≤ 5) : ∀ (P : List (List Ins)), P ≠ [] → (∀ T ∈ P, ∀ i ∈ T, i.Ok n) → ∀ k dn, k ≤ l.length → l.drop k = txL P → thLoop (bt l) k k dn = dn ++ P.map fun T => bt (thB T)
  | [], h, _, _, _, _, _ => absurd rfl h
  | [T], _, hT, k, dn, hk, h => by
    have h' : l.drop k = thB T ++ [] := by rw [List.append_nil]; exact h
    rw [th_skip h' hk (thB_ne hn (hT T (List.mem_cons_self ..)))]
    have h2 := List.drop_eq_nil_iff.1 (drop_app h')
    rw [thLoop, if_neg (by rw [bt_size]; omega), bt_extract, bt_size, List.take_of_length_le (by rw [List.length_drop]; omega), h]
    rfl
  | T :: U :: P, _, hT, k, dn, hk, h => by
    rw [th_skip h hk (thB_ne hn (hT T (List.mem_cons_self ..)))]
    obtain ⟨h3, h4, h5⟩ := drop_cons (drop_app h)
    have e1 : (l.drop k).take (k + (thB T).length - k) = thB T := by rw [Nat.add_sub_cancel_left, h]; exact List.take_left
    rw [thLoop, if_pos (by rw [bt_size]; exact h5), if_pos (by rw [byteI_bt l _ 59 h3 (by decide)]; decide), bt_extract, e1,
      th_all hn (U :: P) (by simp) (fun V hV => hT V (List.mem_cons_of_mem _ hV)) _ _ (by omega) h4]
    simp
theorem wid_ins {n : Nat} (_hn : n ≤ 5) {i : Ins} (hi : i.Ok n) : ∃ c r, i.bs = c :: r ∧ c < 256 ∧ wid c = i.bs.length := by
  cases i with
  | dot => exact ⟨46, [], rfl, by decide, by decide⟩
  | take k =>
    have : k < 6 := hi
    exact ⟨97 + k, [], rfl, by omega, by rw [wid, if_neg (by omega), if_neg (by omega)]; rfl⟩
  | give k =>
    have : k < 6 := hi
    exact ⟨65 + k, [], rfl, by omega, by rw [wid, if_neg (by omega), if_neg (by omega)]; rfl⟩
  | start u => exact ⟨62, [48 + u], rfl, by decide, by simp [wid, Ins.bs]⟩
  | join u => exact ⟨60, [48 + u], rfl, by decide, by simp [wid, Ins.bs]⟩
theorem st_all {l : List Nat} {n : Nat} (hn : n ≤ 5) : ∀ (T : List Ins), (∀ i ∈ T, i.Ok n) → ∀ k dn, l.drop k = thB T → stLoop (bt l) k dn = dn ++ T.map Ins.txt
  | [], _, k, dn, h => by
    have := List.drop_eq_nil_iff.1 (show l.drop k = [] from h)
    rw [stLoop_end _ _ _ (by rw [bt_size]; omega)]; simp
  | i :: T, hT, k, dn, h => by
    have e : thB (i :: T) = i.bs ++ thB T := by simp [thB]
    rw [e] at h
    obtain ⟨c, r, hc, hc2, hw⟩ := wid_ins hn (hT i (List.mem_cons_self ..))
    have h' := h
    rw [hc, List.cons_append] at h'
    obtain ⟨h3, _, h5⟩ := drop_cons h'
    have hlen : k + i.bs.length ≤ l.length := by
      have := congrArg List.length h
      rw [List.length_drop, List.length_append] at this
      omega
    have hE : stEnd (bt l) k = k + i.bs.length := by
      rw [stEnd, byteI_bt l k c h3 hc2, hw, bt_size, if_neg (by omega)]
    have e1 : (l.drop k).take (k + i.bs.length - k) = i.bs := by rw [Nat.add_sub_cancel_left, h]; exact List.take_left
    rw [stLoop, dif_pos (by rw [bt_size]; exact h5), hE, bt_extract, e1, st_all hn T (fun j hj => hT j (List.mem_cons_of_mem _ hj)) _ _ (drop_app h)]
    simp [Ins.txt]

/-! Behind each sign that names a thread stands such a digit. -/
def StrayOk (n : Nat) (l : List Nat) : Prop := ∀ (j c : Nat), l[j]? = some c → (c = 60 ∨ c = 62) → ∃ u, u < n ∧ l[j + 1]? = some (48 + u)
theorem StrayOk.append {n : Nat} {a b : List Nat} (ha : StrayOk n a) (hb : StrayOk n b) : StrayOk n (a ++ b) := fun j c h hc => by
  by_cases hj : j < a.length
  · rw [List.getElem?_append_left hj] at h
    obtain ⟨u, h1, h2⟩ := ha j c h hc
    exact ⟨u, h1, by rw [List.getElem?_append_left (List.getElem?_eq_some_iff.1 h2).1]; exact h2⟩
  · rw [List.getElem?_append_right (by omega)] at h
    obtain ⟨u, h1, h2⟩ := hb _ c h hc
    exact ⟨u, h1, by rw [List.getElem?_append_right (by omega), show j + 1 - a.length = j - a.length + 1 by omega]; exact h2⟩
theorem stray_one {n c : Nat} (h1 : c ≠ 60) (h2 : c ≠ 62) : StrayOk n [c] := fun j d h hd => by
  have := List.mem_of_getElem? h
  simp at this
  omega
theorem stray_two {n c u : Nat} (hn : n ≤ 5) (hu : u < n) : StrayOk n [c, 48 + u] := fun j d h hd => by
  match j with
  | 0 => exact ⟨u, hu, rfl⟩
  | 1 => simp at h; omega
  | j + 2 => simp at h
theorem stray_ins {n : Nat} (hn : n ≤ 5) {i : Ins} (hi : i.Ok n) : StrayOk n i.bs := by
  cases i with
  | dot => exact stray_one (by decide) (by decide)
  | take k => have : k < 6 := hi; exact stray_one (by omega) (by omega)
  | give k => have : k < 6 := hi; exact stray_one (by omega) (by omega)
  | start u => exact stray_two hn hi
  | join u => exact stray_two hn hi
theorem stray_th {n : Nat} (hn : n ≤ 5) : ∀ (T : List Ins), (∀ i ∈ T, i.Ok n) → StrayOk n (thB T)
  | [], _ => fun j c h => by simp [thB] at h
  | i :: T, hT => by
    have e : thB (i :: T) = i.bs ++ thB T := by simp [thB]
    rw [e]
    exact (stray_ins hn (hT i (List.mem_cons_self ..))).append (stray_th hn T fun j hj => hT j (List.mem_cons_of_mem _ hj))
theorem stray_all {n : Nat} (hn : n ≤ 5) : ∀ (P : List (List Ins)), (∀ T ∈ P, ∀ i ∈ T, i.Ok n) → StrayOk n (txL P)
  | [], _ => fun j c h => by simp [txL] at h
  | [T], hT => stray_th hn T (hT T (List.mem_cons_self ..))
  | T :: U :: P, hT => (stray_th hn T (hT T (List.mem_cons_self ..))).append ((stray_one (by decide) (by decide) : StrayOk n [59]).append (stray_all hn (U :: P) fun V hV => hT V (List.mem_cons_of_mem _ hV)))
theorem txL_lt {n : Nat} (hn : n ≤ 5) : ∀ (P : List (List Ins)), (∀ T ∈ P, ∀ i ∈ T, i.Ok n) → ∀ x ∈ txL P, x < 256
  | [], _, x, hx => by cases hx
  | [T], hT, x, hx => (thB_ne hn (hT T (List.mem_cons_self ..)) x hx).2
  | T :: U :: P, hT, x, hx => by
    rcases List.mem_append.1 hx with hx | hx
    · exact (thB_ne hn (hT T (List.mem_cons_self ..)) x hx).2
    · rcases List.mem_cons.1 hx with rfl | hx
      · decide
      · exact txL_lt hn (U :: P) (fun V hV => hT V (List.mem_cons_of_mem _ hV)) x hx
theorem ckStray_ok {l : List Nat} {n : Nat} (hn : n ≤ 5) (hl : ∀ x ∈ l, x < 256) (h : StrayOk n l) : ∀ (d i : Nat), l.length - i = d → 1 ≤ i → ckStray (bt l) n i = -1 := by
  intro d
  induction d with
  | zero => intro i hd hi; rw [ckStray, if_neg (by rw [bt_size]; omega)]
  | succ d ih =>
    intro i hd hi
    rw [ckStray, if_pos (by rw [bt_size]; omega), if_neg, ih (i + 1) (by omega) (by omega)]
    rintro ⟨h1, h2⟩
    obtain ⟨c, hc⟩ := get_some l (i - 1) (by omega)
    rw [byteI_bt l _ c hc (hl c (List.mem_of_getElem? hc))] at h1
    obtain ⟨u, hu, hx⟩ := h (i - 1) c hc (by omega)
    rw [show i - 1 + 1 = i by omega] at hx
    rw [byteI_bt l i _ hx (by omega)] at h2
    omega
theorem ckExtra_ok (l : List ByteArray) (h5 : l.length ≤ 5) (h : ∀ x ∈ l, (stLoop x 0 []).length ≤ 12) : ∀ (d t : Nat), l.length - t = d → ckExtra l t = -1 := by
  intro d
  induction d with
  | zero => intro t hd; rw [ckExtra, dif_neg (by omega)]
  | succ d ih =>
    intro t hd
    have ht : t < l.length := by omega
    rw [ckExtra, dif_pos ht, if_neg, ih (t + 1) (by omega)]
    have := h l[t] (List.getElem_mem ht)
    omega
def prg (P : List (List Ins)) : List (List ByteArray) := P.map fun T => T.map Ins.txt
/-- A text that is made of instructions is a program, of these. -/
theorem parse_ok (P : List (List Ins)) (hne : P ≠ []) (h5 : P.length ≤ 5) (h12 : ∀ T ∈ P, T.length ≤ 12) (hok : ∀ T ∈ P, ∀ i ∈ T, i.Ok P.length) (hsz : (txL P).length ≤ 160) :
    (ckP (bt (txL P))).1 = 0 ∧ (beginW (thLoop (bt (txL P)) 0 0 [])).prog = prg P := by
  have hth := th_all (l := txL P) h5 P hne hok 0 [] (Nat.zero_le _) rfl
  rw [List.nil_append] at hth
  have hst : ∀ T ∈ P, stLoop (bt (thB T)) 0 [] = T.map Ins.txt := fun T hT => by
    have := st_all (l := thB T) h5 T (hok T hT) 0 [] rfl
    rwa [List.nil_append] at this
  have hb := bad_all (l := txL P) h5 P hne hok 0 rfl
  constructor
  · rw [ckP, if_neg (by rw [bt_size]; omega), if_neg (by rw [hb]; decide), hth, ckEnd, if_neg, if_neg]
    · rw [List.length_map, ckStray_ok h5 (txL_lt h5 P hok) (stray_all h5 P hok) _ 1 rfl (Nat.le_refl _)]; simp
    · rw [ckExtra_ok _ (by rw [List.length_map]; exact h5) (fun x hx => ?_) _ 0 rfl]
      · simp
      · obtain ⟨T, hT, rfl⟩ := List.mem_map.1 hx
        rw [hst T hT, List.length_map]; exact h12 T hT
  · rw [hth]
    have e : ∀ ths, (beginW ths).prog = ths.map fun th => stLoop th 0 [] := fun ths => by simp [beginW, madeW]
    rw [e, List.map_map, prg]
    exact List.map_congr_left fun T hT => hst T hT
def Ins.stp : Ins → Stp
  | .dot => ⟨0, 0, 0⟩
  | .take k => ⟨1, k, 0⟩
  | .give k => ⟨2, k, 0⟩
  | .start u => ⟨6, u, 0⟩
  | .join u => ⟨7, u, 0⟩
theorem stp_txt {n : Nat} (hn : n ≤ 5) {i : Ins} (hi : i.Ok n) : stpOf i.txt = i.stp := by
  cases i with
  | dot => rw [Ins.txt, stpOf, if_pos (by rw [byteI_bt _ 0 46 rfl (by decide)]; decide)]; rfl
  | take k =>
    have : k < 6 := hi
    have hb : byteI (Ins.take k).txt 0 = ((97 + k : Nat) : Int) := byteI_bt _ 0 (97 + k) rfl (by omega)
    rw [stpOf, if_neg (by omega), if_pos (by omega), hb, Ins.stp]
    congr 1; omega
  | give k =>
    have : k < 6 := hi
    have hb : byteI (Ins.give k).txt 0 = ((65 + k : Nat) : Int) := byteI_bt _ 0 (65 + k) rfl (by omega)
    rw [stpOf, if_neg (by omega), if_neg (by omega), if_pos (by omega), hb, Ins.stp]
    congr 1; omega
  | start u =>
    have : u < n := hi
    have hb : byteI (Ins.start u).txt 0 = ((62 : Nat) : Int) := byteI_bt _ 0 62 rfl (by omega)
    have hb1 : byteI (Ins.start u).txt 1 = ((48 + u : Nat) : Int) := byteI_bt _ 1 (48 + u) rfl (by omega)
    rw [stpOf, if_neg (by omega), if_neg (by omega), if_neg (by omega), if_neg (by omega), if_neg (by omega), if_neg (by omega), if_pos (by omega), hb1, Ins.stp]
    congr 1; omega
  | join u =>
    have : u < n := hi
    have hb : byteI (Ins.join u).txt 0 = ((60 : Nat) : Int) := byteI_bt _ 0 60 rfl (by omega)
    have hb1 : byteI (Ins.join u).txt 1 = ((48 + u : Nat) : Int) := byteI_bt _ 1 (48 + u) rfl (by omega)
    rw [stpOf, if_neg (by omega), if_neg (by omega), if_neg (by omega), if_neg (by omega), if_neg (by omega), if_neg (by omega), if_neg (by omega), hb1, Ins.stp]
    congr 1; omega
end Go.Proofs.YtdfndcbakcmgiabDoor
namespace Go.Proofs.YtdfndcbakcmgiabDoor

/-! Programs whose first thread starts the others, which take and give locks: where they stand is told by their places (pure). -/
def pl (W : Wd) (t : Nat) : Nat := W.place[t]?.getD 0
def bn (W : Wd) (t : Nat) : Bool := W.born[t]?.getD false
def hs (W : Wd) (k : Nat) : Option Nat := W.has[k]?.getD none
def th (P : List (List Ins)) (t : Nat) : List Ins := P[t]?.getD []
/-- Is the lock had behind these instructions? -/
def stepB (k : Nat) (b : Bool) (i : Ins) : Bool := if i.isT k = true then true else if i.isG k = true then false else b
theorem stepB_take (k : Nat) (b : Bool) : stepB k b (.take k) = true := by rw [stepB, if_pos (Ins.isT_iff.2 rfl)]
theorem stepB_give (k : Nat) (b : Bool) : stepB k b (.give k) = false := by rw [stepB, if_neg (fun e => by cases Ins.isT_iff.1 e), if_pos (Ins.isG_iff.2 rfl)]
theorem stepB_else {k : Nat} {i : Ins} (h1 : i ≠ .take k) (h2 : i ≠ .give k) (b : Bool) : stepB k b i = b := by rw [stepB, if_neg (fun e => h1 (Ins.isT_iff.1 e)), if_neg (fun e => h2 (Ins.isG_iff.1 e))]
def hold (l : List Ins) (k : Nat) : Bool := l.foldl (stepB k) false
theorem hold_snoc (l : List Ins) (i : Ins) (k : Nat) : hold (l ++ [i]) k = stepB k (hold l k) i := by simp [hold, List.foldl_append]
theorem hold_nil (k : Nat) : hold [] k = false := rfl
theorem hold_next {l : List Ins} {n : Nat} {i : Ins} (h : l[n]? = some i) (k : Nat) : hold (l.take (n + 1)) k = stepB k (hold (l.take n) k) i := by
  rw [List.take_add_one, h]; exact hold_snoc _ _ _

structure Shp (P : List (List Ins)) : Prop where
  pos : 0 < P.length
  n5 : P.length ≤ 5
  ok : ∀ T ∈ P, ∀ i ∈ T, i.Ok P.length
  t0 : ∀ i ∈ th P 0, ∃ u, 0 < u ∧ u < P.length ∧ (i = .start u ∨ i = .join u)
  tr : ∀ t, 0 < t → ∀ i ∈ th P t, i = .dot ∨ ∃ k, k < 6 ∧ (i = .take k ∨ i = .give k)
  wfT : ∀ t n k, (th P t)[n]? = some (.take k) → hold ((th P t).take n) k = false
  wfG : ∀ t n k, (th P t)[n]? = some (.give k) → hold ((th P t).take n) k = true
  once : ∀ (i j u : Nat), (th P 0)[i]? = some (.start u) → (th P 0)[j]? = some (.start u) → i = j
theorem th_mem {P : List (List Ins)} {t : Nat} (h : t < P.length) : th P t ∈ P := by
  unfold th; rw [List.getElem?_eq_getElem h]; exact List.getElem_mem h
theorem Shp.iok {P : List (List Ins)} (S : Shp P) {t n : Nat} {i : Ins} (ht : t < P.length) (h : (th P t)[n]? = some i) : i.Ok P.length := S.ok _ (th_mem ht) i (List.mem_of_getElem? h)

structure St (P : List (List Ins)) (W : Wd) : Prop where
  inv : W.Inv
  prog : W.prog = prg P
  has : ∀ k t, k < 6 → t < P.length → (hs W k = some t ↔ hold ((th P t).take (pl W t)) k = true)
  born : ∀ u, u < P.length → (bn W u = true ↔ u = 0 ∨ ∃ i, i < pl W 0 ∧ (th P 0)[i]? = some (.start u))
  joined : ∀ i u, i < pl W 0 → (th P 0)[i]? = some (.join u) → pl W u = (th P u).length ∧ bn W u = true
  sum : W.log.length = W.place.sum
  set : W.set = List.replicate 6 false
  zero : ∀ u, u < P.length → bn W u = false → pl W u = 0
theorem St.len {P : List (List Ins)} {W : Wd} (h : St P W) : W.prog.length = P.length := by rw [h.prog, prg, List.length_map]
theorem prg_get {P : List (List Ins)} {t : Nat} (h : t < P.length) : (prg P)[t]? = some ((th P t).map Ins.txt) := by
  unfold prg th; rw [List.getElem?_map, List.getElem?_eq_getElem h]; rfl
theorem St.place {P : List (List Ins)} {W : Wd} (h : St P W) {t : Nat} (ht : t < P.length) : W.place[t]? = some (pl W t) := by
  obtain ⟨n, hn⟩ := get_some W.place t (by rw [h.inv.good.ok.nl, h.len]; exact ht)
  rw [pl, hn]; rfl
theorem St.bornG {P : List (List Ins)} {W : Wd} (h : St P W) {t : Nat} (ht : t < P.length) : W.born[t]? = some (bn W t) := by
  obtain ⟨n, hn⟩ := get_some W.born t (by rw [h.inv.good.ok.nb, h.len]; exact ht)
  rw [bn, hn]; rfl
theorem St.hasG {P : List (List Ins)} {W : Wd} (h : St P W) {k : Nat} (hk : k < 6) : W.has[k]? = some (hs W k) := by
  obtain ⟨n, hn⟩ := get_some W.has k (by rw [h.inv.good.ok.nh]; exact hk)
  rw [hs, hn]; rfl
theorem St.plLe {P : List (List Ins)} {W : Wd} (h : St P W) {t : Nat} (ht : t < P.length) : pl W t ≤ (th P t).length := by
  have := h.inv.good.pl t _ _ (by rw [h.prog]; exact prg_get ht) (h.place ht)
  rwa [List.length_map] at this
theorem St.hsLt {P : List (List Ins)} {W : Wd} (h : St P W) {k u : Nat} (hk : k < 6) (hh : hs W k = some u) : u < P.length := by
  rw [← h.len]
  exact h.inv.good.has k u (by rw [h.hasG hk, hh])
theorem St.at {P : List (List Ins)} {W : Wd} (h : St P W) {t : Nat} (ht : t < P.length) (hb : bn W t = true) {i : Ins} (hi : (th P t)[pl W t]? = some i) : At W t (pl W t) ((th P t).map Ins.txt) i.txt :=
  ⟨by rw [h.bornG ht, hb], h.place ht, by rw [h.prog]; exact prg_get ht, by rw [List.getElem?_map, hi]; rfl⟩
theorem St.over {P : List (List Ins)} {W : Wd} (h : St P W) {u : Nat} (hu : u < P.length) : overOf W u = true ↔ bn W u = true ∧ pl W u = (th P u).length := by
  rw [overOf, Bool.and_eq_true, decide_eq_true_iff, h.prog, prg_get hu]
  simp only [Option.getD_some, List.length_map]
  rfl

/-- What a thread is at. -/
inductive Knd (P : List (List Ins)) (W : Wd) (t : Nat) : Prop
  | unborn : bn W t = false → stateOf W t = 0 → Knd P W t
  | ended : bn W t = true → pl W t = (th P t).length → stateOf W t = 4 → Knd P W t
  | ready (i : Ins) : bn W t = true → (th P t)[pl W t]? = some i → Rdy W t i.stp → stateOf W t = 1 → Knd P W t
  | wants (k u : Nat) : bn W t = true → (th P t)[pl W t]? = some (.take k) → k < 6 → hs W k = some u → u ≠ t → u < P.length → stateOf W t = 2 → waitsOf W t = u → Knd P W t
  | joins (u : Nat) : bn W t = true → (th P t)[pl W t]? = some (.join u) → u < P.length → ¬ (bn W u = true ∧ pl W u = (th P u).length) → stateOf W t = 3 → Knd P W t

theorem knd_of {P : List (List Ins)} (S : Shp P) {W : Wd} (h : St P W) {t : Nat} (ht : t < P.length) : Knd P W t := by
  by_cases hb : bn W t = true
  · cases hi : (th P t)[pl W t]? with
    | none =>
      have hle := h.plLe ht
      refine .ended hb (by have := List.getElem?_eq_none_iff.1 hi; omega) ?_
      have e1 : W.born[t]?.getD false = true := hb
      have e2 : (W.prog[t]?.getD [])[W.place[t]?.getD 0]? = none := by
        rw [h.prog, prg_get ht]
        show ((th P t).map Ins.txt)[pl W t]? = none
        rw [List.getElem?_map, hi]; rfl
      rw [stateOf, if_pos e1, e2]
    | some i =>
      have A := h.at ht hb hi
      have iok := S.iok ht hi
      have hst := stp_txt S.n5 iok
      have hr := rdy_iff h.inv.good A
      rw [hst] at hr
      cases i with
      | dot =>
        have R : Rdy W t (Ins.dot).stp := by constructor <;> simp [Ins.stp]
        exact .ready _ hb hi R (hr.2 R)
      | take k =>
        have hk : k < 6 := iok
        cases hh : hs W k with
        | none =>
          have R : Rdy W t (Ins.take k).stp := by
            refine ⟨fun _ => ?_, by simp [Ins.stp], by simp [Ins.stp], by simp [Ins.stp]⟩
            simp only [Ins.stp, Int.toNat_natCast]; exact hh
          exact .ready _ hb hi R (hr.2 R)
        | some u =>
          have hne : u ≠ t := fun e => by
            subst e
            have := (h.has k u hk ht).1 hh
            rw [S.wfT u _ k hi] at this
            cases this
          have A' : At W t (pl W t) ((th P t).map Ins.txt) (lockT k) := A
          obtain ⟨h1, h2⟩ := lock_state A' hk hh hne
          exact .wants k u hb hi hk hh hne (h.hsLt hk hh) h1 h2
      | give k =>
        have hk : k < 6 := iok
        have hh := (h.has k t hk ht).2 (S.wfG t _ k hi)
        have R : Rdy W t (Ins.give k).stp := by
          refine ⟨by simp [Ins.stp], fun _ => ?_, by simp [Ins.stp], by simp [Ins.stp]⟩
          simp only [Ins.stp, Int.toNat_natCast]; exact hh
        exact .ready _ hb hi R (hr.2 R)
      | start u =>
        have hu : u < P.length := iok
        have t0 : t = 0 := by
          rcases Nat.eq_zero_or_pos t with h1 | h1
          · exact h1
          · rcases S.tr t h1 _ (List.mem_of_getElem? hi) with h2 | ⟨k, _, h2 | h2⟩ <;> cases h2
        subst t0
        have hb0 : bn W u = false := by
          rw [Bool.eq_false_iff]
          intro hbu
          rcases (h.born u hu).1 hbu with h1 | ⟨j, hj, h1⟩
          · obtain ⟨v, hv1, _, h2 | h2⟩ := S.t0 _ (List.mem_of_getElem? hi)
            · cases h2; omega
            · cases h2
          · have := S.once j _ u h1 hi
            omega
        have R : Rdy W 0 (Ins.start u).stp := by
          refine ⟨by simp [Ins.stp], by simp [Ins.stp], fun _ => ?_, by simp [Ins.stp]⟩
          simp only [Ins.stp, Int.toNat_natCast]; exact hb0
        exact .ready _ hb hi R (hr.2 R)
      | join u =>
        have hu : u < P.length := iok
        by_cases ho : overOf W u = true
        · have R : Rdy W t (Ins.join u).stp := by
            refine ⟨by simp [Ins.stp], by simp [Ins.stp], by simp [Ins.stp], fun _ => ?_⟩
            simp only [Ins.stp, Int.toNat_natCast]; exact ho
          exact .ready _ hb hi R (hr.2 R)
        · refine .joins u hb hi hu (fun h1 => ho ((h.over hu).2 h1)) ?_
          have hb0 : byteI (Ins.join u).txt 0 = ((60 : Nat) : Int) := byteI_bt _ 0 60 rfl (by omega)
          have hb1 : byteI (Ins.join u).txt 1 = ((48 + u : Nat) : Int) := byteI_bt _ 1 (48 + u) rfl (by have := S.n5; omega)
          have hs3 : stateOf W t = doSt W t (Ins.join u).txt := by simp [stateOf, A.born, A.place, A.prog, A.txt]
          rw [hs3, doSt, hb0, hb1, if_neg (by omega), if_neg (by omega), if_neg (by omega), if_pos (by omega), show (((48 + u : Nat) : Int) - 48).toNat = u by omega, if_neg ho]
  · have hb' : bn W t = false := by simpa using hb
    refine .unborn hb' ?_
    have e1 : W.born[t]?.getD false = false := hb'
    rw [stateOf, e1]; rfl

/-- A move. -/
structure Mvd (P : List (List Ins)) (W V : Wd) (t : Nat) (i : Ins) : Prop where
  it : (th P t)[pl W t]? = some i
  bt : bn W t = true
  rdy : Rdy W t i.stp
  pl : ∀ u, Proofs.YtdfndcbakcmgiabDoor.pl V u = if u = t then Proofs.YtdfndcbakcmgiabDoor.pl W t + 1 else Proofs.YtdfndcbakcmgiabDoor.pl W u
theorem sum_set_one : ∀ (l : List Nat) (t n : Nat), l[t]? = some n → (l.set t (n + 1)).sum = l.sum + 1
  | [], _, _, h => by simp at h
  | x :: l, 0, n, h => by
    simp at h
    simp only [List.set_cons_zero, List.sum_cons]
    omega
  | x :: l, t + 1, n, h => by
    have := sum_set_one l t n (by simpa using h)
    simp only [List.set_cons_succ, List.sum_cons]
    omega
theorem mvd_of {P : List (List Ins)} (S : Shp P) {W : Wd} (h : St P W) {t : Nat} (ht : t < P.length) (hst : stateOf W t = 1) : (∃ i, Mvd P W (moveT W t) t i) ∧ St P (moveT W t) := by
  obtain ⟨i, hb, hi, hR⟩ : ∃ i, bn W t = true ∧ (th P t)[pl W t]? = some i ∧ Rdy W t i.stp := by
    cases knd_of S h ht with
    | unborn _ h1 => rw [hst] at h1; cases h1
    | ended _ _ h1 => rw [hst] at h1; cases h1
    | ready i h1 h2 h3 _ => exact ⟨i, h1, h2, h3⟩
    | wants _ _ _ _ _ _ _ _ h1 => rw [hst] at h1; cases h1
    | joins _ _ _ _ _ h1 => rw [hst] at h1; cases h1
  have A := h.at ht hb hi
  have iok := S.iok ht hi
  have Pt := moveW_parts h.inv.good A (holdsOf W t)
  rw [stp_txt S.n5 iok, ← moveT_at A] at Pt
  have hkind5 : i.stp.kind ≠ 5 := by cases i <;> simp [Ins.stp]
  have hplace : (moveT W t).place = W.place.set t (pl W t + 1) := by rw [Pt.place, placeAfter, if_neg hkind5]
  have hlp : t < W.place.length := by rw [h.inv.good.ok.nl, h.len]; exact ht
  have hpl : ∀ u, pl (moveT W t) u = if u = t then pl W t + 1 else pl W u := fun u => by
    show (moveT W t).place[u]?.getD 0 = _
    rw [hplace, List.getElem?_set]
    by_cases hu : t = u
    · subst hu; rw [if_pos rfl, if_pos hlp, if_pos rfl]; rfl
    · rw [if_neg hu, if_neg (Ne.symm hu)]; rfl
  have hhT : ∀ k, k < 6 → i = .take k → hs (moveT W t) k = some t := fun k hk e => by
    subst e
    show (moveT W t).has[k]?.getD none = _
    have hl6 : k < W.has.length := by rw [h.inv.good.ok.nh]; exact hk
    rw [Pt.has, hasAfter, if_pos (show (Ins.take k).stp.kind = 1 from rfl)]
    simp only [Ins.stp, Int.toNat_natCast]
    rw [List.getElem?_set]
    simp [hl6]
  have hhG : ∀ k, k < 6 → i = .give k → hs (moveT W t) k = none := fun k hk e => by
    subst e
    show (moveT W t).has[k]?.getD none = _
    have hl6 : k < W.has.length := by rw [h.inv.good.ok.nh]; exact hk
    rw [Pt.has, hasAfter, if_neg (by simp [Ins.stp]), if_pos (show (Ins.give k).stp.kind = 2 from rfl)]
    simp only [Ins.stp, Int.toNat_natCast]
    rw [List.getElem?_set]
    simp [hl6]
  have hhE : ∀ k, k < 6 → i ≠ .take k → i ≠ .give k → hs (moveT W t) k = hs W k := fun k hk e1 e2 => by
    show (moveT W t).has[k]?.getD none = W.has[k]?.getD none
    rw [Pt.has, hasAfter]
    cases i with
    | take j =>
      rw [if_pos (show (Ins.take j).stp.kind = 1 from rfl)]
      simp only [Ins.stp, Int.toNat_natCast]
      rw [List.getElem?_set, if_neg (fun e => e1 (by rw [e]))]
    | give j =>
      rw [if_neg (by simp [Ins.stp]), if_pos (show (Ins.give j).stp.kind = 2 from rfl)]
      simp only [Ins.stp, Int.toNat_natCast]
      rw [List.getElem?_set, if_neg (fun e => e2 (by rw [e]))]
    | dot => simp [Ins.stp]
    | start j => simp [Ins.stp]
    | join j => simp [Ins.stp]
  have hbn : ∀ u, u < P.length → (bn (moveT W t) u = true ↔ i = .start u ∨ bn W u = true) := fun u hu => by
    show (moveT W t).born[u]?.getD false = true ↔ _
    have hlb : u < W.born.length := by rw [h.inv.good.ok.nb, h.len]; exact hu
    have hbu : W.born[u]?.getD false = bn W u := rfl
    rw [Pt.born, bornAfter]
    cases i with
    | start j =>
      rw [if_pos (show (Ins.start j).stp.kind = 6 from rfl)]
      simp only [Ins.stp, Int.toNat_natCast]
      rw [List.getElem?_set]
      by_cases hj : j = u
      · subst hj; simp [hlb]
      · rw [if_neg hj, hbu]; simp [hj]
    | dot => simp [Ins.stp, hbu]
    | take j => simp [Ins.stp, hbu]
    | give j => simp [Ins.stp, hbu]
    | join j => simp [Ins.stp, hbu]
  refine ⟨⟨i, hi, hb, hR, hpl⟩, ?_⟩
  refine ⟨moveT_inv h.inv (by rw [h.len]; exact ht) hst, by rw [moveT_prog]; exact h.prog, fun k u hk hu => ?_, fun u hu => ?_, fun j u hj hju => ?_, ?_, ?_, fun u hu hbu => ?_⟩
  · rw [hpl u]
    by_cases hut : u = t
    · subst hut
      rw [if_pos rfl, hold_next hi]
      by_cases h1 : i = .take k
      · rw [hhT k hk h1, h1, stepB_take]; simp
      · by_cases h2 : i = .give k
        · rw [hhG k hk h2, h2, stepB_give]; simp
        · rw [hhE k hk h1 h2, stepB_else h1 h2]; exact h.has k u hk hu
    · rw [if_neg hut]
      by_cases h1 : i = .take k
      · rw [hhT k hk h1]
        subst h1
        have hn : hs W k = none := by
          have := hR.take rfl
          simp only [Ins.stp, Int.toNat_natCast] at this
          exact this
        rw [← h.has k u hk hu, hn]
        simp; omega
      · by_cases h2 : i = .give k
        · rw [hhG k hk h2]
          subst h2
          have hn : hs W k = some t := by
            have := hR.give rfl
            simp only [Ins.stp, Int.toNat_natCast] at this
            exact this
          rw [← h.has k u hk hu, hn]
          simp; omega
        · rw [hhE k hk h1 h2]; exact h.has k u hk hu
  · rw [hbn u hu, h.born u hu, hpl 0]
    by_cases ht0 : t = 0
    · subst ht0
      rw [if_pos rfl]
      constructor
      · rintro (h1 | h1 | ⟨j, hj, h1⟩)
        · exact .inr ⟨pl W 0, by omega, by rw [hi, h1]⟩
        · exact .inl h1
        · exact .inr ⟨j, by omega, h1⟩
      · rintro (h1 | ⟨j, hj, h1⟩)
        · exact .inr (.inl h1)
        · by_cases he : j = pl W 0
          · subst he
            rw [hi] at h1
            exact .inl (Option.some.inj h1)
          · exact .inr (.inr ⟨j, by omega, h1⟩)
    · rw [if_neg (Ne.symm ht0)]
      constructor
      · rintro (h1 | h1)
        · subst h1
          rcases S.tr t (by omega) _ (List.mem_of_getElem? hi) with h2 | ⟨k, _, h2 | h2⟩ <;> cases h2
        · exact h1
      · exact .inr
  · rw [hpl 0] at hj
    have hu : u < P.length := by
      obtain ⟨v, _, hv, h1 | h1⟩ := S.t0 _ (List.mem_of_getElem? hju)
      · cases h1
      · cases h1; exact hv
    have key : pl W u = (th P u).length ∧ bn W u = true := by
      by_cases ht0 : t = 0
      · subst ht0
        rw [if_pos rfl] at hj
        by_cases he : j = pl W 0
        · subst he
          rw [hi] at hju
          cases hju
          have := hR.join rfl
          simp only [Ins.stp, Int.toNat_natCast] at this
          exact ((h.over hu).1 this).symm
        · exact h.joined j u (by omega) hju
      · rw [if_neg (Ne.symm ht0)] at hj
        exact h.joined j u hj hju
    refine ⟨?_, (hbn u hu).2 (.inr key.2)⟩
    rw [hpl u]
    by_cases hut : u = t
    · subst hut
      have := (List.getElem?_eq_some_iff.1 hi).1
      omega
    · rw [if_neg hut]; exact key.1
  · rw [moveT_log, h.sum, hplace, sum_set_one _ _ _ (h.place ht)]
  · rw [Pt.set, setAfter]
    cases i <;> simp [Ins.stp, h.set]
  · have hbu' : bn W u = false := by
      rw [Bool.eq_false_iff]
      intro e
      rw [(hbn u hu).2 (.inr e)] at hbu
      cases hbu
    rw [hpl u, if_neg (fun e => by rw [e, hb] at hbu'; cases hbu')]
    exact h.zero u hu hbu'
theorem st_begin {P : List (List Ins)} {ths : List ByteArray} (I0 : (beginW ths).Inv) (hp : (beginW ths).prog = prg P) : St P (beginW ths) := by
  have hl : ths.length = P.length := by
    have h1 : (beginW ths).prog.length = ths.length := by simp [beginW, madeW]
    rw [hp, prg, List.length_map] at h1
    exact h1.symm
  have hpl : ∀ u, pl (beginW ths) u = 0 := fun u => by
    show (List.replicate ths.length 0)[u]?.getD 0 = 0
    rw [List.getElem?_replicate]; split <;> rfl
  have hhs : ∀ k, hs (beginW ths) k = none := fun k => by
    show (List.replicate 6 none)[k]?.getD none = none
    rw [List.getElem?_replicate]; split <;> rfl
  refine ⟨I0, hp, fun k t hk ht => ?_, fun u hu => ?_, fun j u hj => ?_, ?_, rfl, fun u _ _ => hpl u⟩
  · rw [hhs, hpl]; simp [hold_nil]
  · have hb : bn (beginW ths) u = decide (u = 0) := by
      show ((List.range ths.length).map fun i => decide (i = 0))[u]?.getD false = _
      rw [List.getElem?_map, List.getElem?_range (by omega)]; rfl
    rw [hb, hpl, decide_eq_true_iff]
    constructor
    · exact .inl
    · rintro (h | ⟨i, hi, _⟩)
      · exact h
      · omega
  · rw [hpl] at hj; omega
  · show 0 = (List.replicate ths.length 0).sum
    simp
theorem st_goL {P : List (List Ins)} (S : Shp P) : ∀ (m : List Nat) (W V : Wd), St P W → goL W m = some V → St P V
  | [], W, V, h, hg => by simp only [goL, Option.some.injEq] at hg; subst hg; exact h
  | a :: m, W, V, h, hg => by
    simp only [goL] at hg
    split at hg
    · rename_i hc
      exact st_goL S m _ V (mvd_of S h (by rw [← h.len]; exact hc.1) hc.2).2 hg
    · cases hg
end Go.Proofs.YtdfndcbakcmgiabDoor
namespace Go.Proofs.YtdfndcbakcmgiabDoor

/-! What follows for such programs: no faults; who has a lock; rings; circles; asks (pure). -/
theorem St.no5 {P : List (List Ins)} (S : Shp P) {W : Wd} (h : St P W) {t : Nat} (ht : t < P.length) : stateOf W t ≠ 5 := by
  intro h5
  cases knd_of S h ht with
  | unborn _ h1 => rw [h5] at h1; cases h1
  | ended _ _ h1 => rw [h5] at h1; cases h1
  | ready _ _ _ _ h1 => rw [h5] at h1; cases h1
  | wants _ _ _ _ _ _ _ _ h1 => rw [h5] at h1; cases h1
  | joins _ _ _ _ _ h1 => rw [h5] at h1; cases h1
theorem hold_from (k : Nat) : ∀ (l : List Ins) (b : Bool), l.foldl (stepB k) b = true → b = true ∨ Ins.take k ∈ l
  | [], b, h => .inl h
  | i :: l, b, h => by
    rw [List.foldl_cons] at h
    rcases hold_from k l _ h with h1 | h1
    · by_cases hi : i = .take k
      · exact .inr (by rw [hi]; exact List.mem_cons_self ..)
      · by_cases hg : i = .give k
        · rw [hg, stepB_give] at h1; cases h1
        · rw [stepB_else hi hg] at h1; exact .inl h1
    · exact .inr (List.mem_cons_of_mem _ h1)
theorem hold_mem {l : List Ins} {k : Nat} (h : hold l k = true) : Ins.take k ∈ l := by
  rcases hold_from k l false h with h1 | h1
  · cases h1
  · exact h1
/-- Who has a lock. -/
theorem St.holder {P : List (List Ins)} (S : Shp P) (fin : ∀ t k, hold (th P t) k = false) {W : Wd} (h : St P W) {k u : Nat} (hk : k < 6) (hh : hs W k = some u) : 0 < u ∧ u < P.length ∧ bn W u = true ∧ pl W u < (th P u).length ∧ hold ((th P u).take (pl W u)) k = true := by
  have hu := h.hsLt hk hh
  have hH := (h.has k u hk hu).1 hh
  refine ⟨?_, hu, ?_, ?_, hH⟩
  · rcases Nat.eq_zero_or_pos u with h0 | h0
    · subst h0
      obtain ⟨v, _, _, h1 | h1⟩ := S.t0 _ (List.mem_of_mem_take (hold_mem hH)) <;> cases h1
    · exact h0
  · cases hb : bn W u with
    | true => rfl
    | false => rw [h.zero u hu hb] at hH; simp [hold] at hH
  · have hle := h.plLe hu
    rcases Nat.lt_or_ge (pl W u) (th P u).length with h1 | h1
    · exact h1
    · rw [List.take_of_length_le h1, fin] at hH; cases hH

/-- A ring rises for ever. -/
theorem ringF_rise {W : Wd} (G : W.Good) (lk : Nat → Nat) (hst : ∀ a u : Nat, a < W.prog.length → u < W.prog.length → stateOf W a = 2 → waitsOf W a = (u : Int) → stateOf W u = 2 → lk a < lk u) (t : Nat) :
    ∀ (m a : Nat), a < W.prog.length → ringF W t m a = true → stateOf W a = 2 ∧ ∃ b, b < W.prog.length ∧ stateOf W b = 2 ∧ waitsOf W b = (t : Int) ∧ lk a ≤ lk b
  | 0, a, _, h => by simp [ringF] at h
  | m + 1, a, ha, h => by
    rw [ringF] at h
    by_cases h2 : stateOf W a = 2
    · rw [if_pos h2] at h
      refine ⟨h2, ?_⟩
      by_cases hw : waitsOf W a = (t : Int)
      · exact ⟨a, ha, h2, hw, Nat.le_refl _⟩
      · rw [if_neg hw] at h
        obtain ⟨u, hu, hwu⟩ := waits_lt G ha h2
        rw [hwu, Int.toNat_natCast] at h
        obtain ⟨h3, b, h4, h5, h6, h7⟩ := ringF_rise G lk hst t m u hu h
        have := hst a u ha hu h2 hwu h3
        exact ⟨b, h4, h5, h6, by omega⟩
    · rw [if_neg h2] at h; cases h
theorem no_ring {W : Wd} (G : W.Good) (lk : Nat → Nat) (hst : ∀ a u : Nat, a < W.prog.length → u < W.prog.length → stateOf W a = 2 → waitsOf W a = (u : Int) → stateOf W u = 2 → lk a < lk u) : ringW W = false := by
  rw [Bool.eq_false_iff]
  intro h
  obtain ⟨t, ht, h1⟩ := List.any_eq_true.1 h
  have ht' := List.mem_range.1 ht
  obtain ⟨h2, b, h3, h4, h5, h6⟩ := ringF_rise G lk hst t _ t ht' h1
  have := hst b t h3 ht' h4 h5 h2
  omega

/-! The circles that are found. -/
theorem dfs_mem {la : List Aq} {n : Nat} (hn : 1 < n) {q : List Nat} (hq : q ∈ dfs la n []) : CircP la q ∧ (∀ i ∈ q, i < la.length) ∧ q.length = n := by
  rw [← chn_dfs la n hn] at hq
  obtain ⟨h1, h2⟩ := List.mem_filter.1 hq
  rw [chn_cf] at h1
  obtain ⟨r, hr0, hr⟩ := cf_pre la n [] q h1
  rw [List.nil_append] at hr0
  subst hr0
  exact ⟨circB_iff.1 h2, cf_in la n [] (fun i hi => by cases hi) q h1, hr⟩
theorem dfs_pre (la : List Aq) : ∀ d p, ∀ q ∈ dfs la d p, ∃ r, q = p ++ r
  | 0, p, q, h => by
    rw [dfs] at h
    split at h
    · exact ⟨[], by simpa using h⟩
    · cases h
  | d + 1, p, q, h => by
    rw [dfs, List.mem_flatMap] at h
    obtain ⟨k, _, hq⟩ := h
    split at hq
    · obtain ⟨r, rfl⟩ := dfs_pre la d _ q hq
      exact ⟨k :: r, by simp⟩
    · cases hq
theorem dfs_nodup (la : List Aq) : ∀ d p, (dfs la d p).Nodup
  | 0, p => by
    rw [dfs]
    split
    · exact List.pairwise_singleton _ _
    · exact List.Pairwise.nil
  | d + 1, p => by
    rw [dfs, List.Nodup, List.pairwise_flatMap]
    refine ⟨fun k _ => ?_, ?_⟩
    · split
      · exact dfs_nodup la d _
      · exact List.Pairwise.nil
    · refine List.Pairwise.imp ?_ List.pairwise_lt_range
      intro a b hab x hx y hy
      split at hx
      · split at hy
        · obtain ⟨r, rfl⟩ := dfs_pre la d _ x hx
          obtain ⟨r', rfl⟩ := dfs_pre la d _ y hy
          intro e
          rw [List.append_assoc, List.append_assoc] at e
          have := List.append_cancel_left e
          simp only [List.singleton_append, List.cons.injEq] at this
          omega
        · cases hy
      · cases hx
theorem mem_dfs {la : List Aq} : ∀ (r p : List Nat), GoodP la (p ++ r) → closB la (p ++ r) = true → (∀ i ∈ r, i < la.length) → p ++ r ∈ dfs la r.length p
  | [], p, _, hc, _ => by
    rw [List.append_nil] at hc ⊢
    rw [List.length_nil, dfs, if_pos hc]
    exact List.mem_singleton.2 rfl
  | k :: r, p, hg, hc, hi => by
    have e : p ++ k :: r = (p ++ [k]) ++ r := by simp
    rw [e] at hg hc ⊢
    have h1 : GoodP la (p ++ [k]) := goodP_pre hg
    rw [List.length_cons, dfs, List.mem_flatMap]
    refine ⟨k, List.mem_range.2 (hi k (List.mem_cons_self ..)), ?_⟩
    rw [if_pos ((goodP_next (goodP_pre h1) k).1 h1)]
    exact mem_dfs r (p ++ [k]) hg hc (fun i h => hi i (List.mem_cons_of_mem _ h))
theorem nodup_one {A : Type} {l : List A} {a : A} (h : l.Nodup) (ha : ∀ x ∈ l, x = a) (hm : a ∈ l) : l = [a] := by
  cases l with
  | nil => cases hm
  | cons x l =>
    have hx := ha x (List.mem_cons_self ..)
    subst hx
    cases l with
    | nil => rfl
    | cons y l =>
      have hy := ha y (by simp)
      subst hy
      simp at h
theorem find_none {la : List Aq} (h : ∀ q, (∀ i ∈ q, i < la.length) → ¬ CircP la q) : findS la 100 = ([], false) := by
  have hd : ∀ n, 1 < n → dfs la n [] = [] := fun n hn => List.eq_nil_iff_forall_not_mem.2 fun q hq => h q (dfs_mem hn hq).2.1 (dfs_mem hn hq).1
  rw [findS_add]
  simp [hd, addS]
theorem find_one {la : List Aq} {p : List Nat} (hin : ∀ i ∈ p, i < la.length) (hc : CircP la p) (h5 : p.length ≤ 5) (hu : ∀ q, (∀ i ∈ q, i < la.length) → CircP la q → q = p) : findS la 100 = ([p], false) := by
  have h2 : 1 < p.length := hc.1
  have hd : ∀ n, 1 < n → dfs la n [] = if n = p.length then [p] else [] := fun n hn => by
    split
    · rename_i e
      subst e
      refine nodup_one (dfs_nodup la _ _) (fun q hq => hu q (dfs_mem hn hq).2.1 (dfs_mem hn hq).1) ?_
      obtain ⟨hg, hcl⟩ := (circP_iff la p h2).1 hc
      exact mem_dfs p [] hg hcl hin
    · rename_i hne
      refine List.eq_nil_iff_forall_not_mem.2 fun q hq => hne ?_
      obtain ⟨h3, h4, h6⟩ := dfs_mem hn hq
      rw [← h6, hu q h4 h3]
  have hf : ([2, 3, 4, 5].flatMap fun n => dfs la n []) = [p] := by
    have hl : p.length = 2 ∨ p.length = 3 ∨ p.length = 4 ∨ p.length = 5 := by omega
    simp only [List.flatMap_cons, List.flatMap_nil, hd 2 (by decide), hd 3 (by decide), hd 4 (by decide), hd 5 (by decide)]
    rcases hl with hl | hl | hl | hl <;> simp [hl]
  rw [findS_add, hf]
  simp [addS]

/-! The asks. -/
structure AskS (P : List (List Ins)) (N : Nat) (T : Nat → Nat) (ws : Nat → Wd) (x : Aq) (j : Nat) : Prop where
  le : j ≤ N
  ev : (x.ev = some j ∧ j < N ∧ T j = x.th) ∨ (x.ev = none ∧ j = N)
  lt : x.th < P.length
  k6 : x.k < 6
  st : St P (ws j)
  bn : Proofs.YtdfndcbakcmgiabDoor.bn (ws j) x.th = true
  pl : Proofs.YtdfndcbakcmgiabDoor.pl (ws j) x.th = x.pl
  it : (th P x.th)[x.pl]? = some (.take x.k)
  hl : ∀ y, y ∈ x.hl ↔ y < 6 ∧ hold ((th P x.th).take x.pl) y = true
theorem ins_lock {P : List (List Ins)} (S : Shp P) {t n k : Nat} {i : Ins} (ht : t < P.length) (h : (th P t)[n]? = some i) (hk : k < 6) (he : i.txt = lockT k) : i = .take k := by
  have h1 := stp_txt S.n5 (S.iok ht h)
  have h2 : stpOf (lockT k) = (Ins.take k).stp := stp_txt (n := 0) (i := .take k) (Nat.zero_le _) hk
  rw [he, h2] at h1
  cases i <;> simp [Ins.stp] at h1
  congr 1
  omega
theorem st_at {P : List (List Ins)} (S : Shp P) {ths : List ByteArray} (I0 : (beginW ths).Inv) (hp : (beginW ths).prog = prg P) {WE : Wd} {ms : List Nat} (h : goL (beginW ths) ms = some WE) (j : Nat) : St P (worldAt (beginW ths) ms j) :=
  st_goL S _ _ _ (st_begin I0 hp) (worldAt_some h j)
theorem ask_st {P : List (List Ins)} (S : Shp P) {ths : List ByteArray} (I0 : (beginW ths).Inv) (hp : (beginW ths).prog = prg P) {WE : Wd} {ms : List Nat} (h : goL (beginW ths) ms = some WE) {x : Aq} (hx : x ∈ aqsW WE) :
    ∃ j, AskS P ms.length (thAt ms) (worldAt (beginW ths) ms) x j := by
  obtain ⟨j, A⟩ := ask_at ths I0 h hx
  have hs := st_at S I0 hp h j
  have h0 : worldAt (beginW ths) ms 0 = beginW ths := by simp [worldAt, goL]
  have hlt : x.th < P.length := by
    have := A.lt
    rw [h0, hp, prg, List.length_map] at this
    exact this
  obtain ⟨l, hA⟩ := A.at'
  have hpl : pl (worldAt (beginW ths) ms j) x.th = x.pl := by rw [pl, hA.place]; rfl
  have hit : (th P x.th)[x.pl]? = some (.take x.k) := by
    have h1 := hA.prog
    rw [hs.prog, prg_get hlt] at h1
    cases h1
    have h2 := hA.txt
    rw [List.getElem?_map] at h2
    cases hi : (th P x.th)[x.pl]? with
    | none => rw [hi] at h2; cases h2
    | some i =>
      rw [hi] at h2
      simp only [Option.map_some, Option.some.injEq] at h2
      rw [ins_lock S hlt hi A.k6 h2]
  refine ⟨j, A.le, A.ev, hlt, A.k6, hs, by rw [bn, hA.born]; rfl, hpl, hit, fun y => ?_⟩
  rw [A.hl, heldL_mem]
  constructor
  · rintro ⟨h1, h2⟩
    exact ⟨h1, by rw [← hpl]; exact (hs.has y x.th h1 hlt).1 h2⟩
  · rintro ⟨h1, h2⟩
    exact ⟨h1, (hs.has y x.th h1 hlt).2 (by rw [hpl]; exact h2)⟩
theorem circ_rise {la : List Aq} (hr : ∀ x ∈ la, ∀ y ∈ x.hl, y < x.k) (q : List Nat) (hin : ∀ i ∈ q, i < la.length) : ¬ CircP la q := by
  rintro ⟨h2, hc⟩
  have hlt : ∀ i, i < q.length → (aqOf la (pAt q i)).k < (aqOf la (pAt q ((i + 1) % q.length))).k := fun i hi => by
    have h1 := (hc i hi).1
    have hm : pAt q ((i + 1) % q.length) ∈ q := pAt_mem (Nat.mod_lt _ (by omega))
    obtain ⟨y, hy1, hy2⟩ := of_decide_eq_true h1
    have hy : y = (aqOf la (pAt q i)).k := by simpa using hy1
    rw [← hy]
    exact hr _ (aqOf_mem (hin _ hm)) y hy2
  have hup : ∀ i, i < q.length → (aqOf la (pAt q 0)).k ≤ (aqOf la (pAt q i)).k := by
    intro i
    induction i with
    | zero => intro _; exact Nat.le_refl _
    | succ i ih =>
      intro hi
      have h3 := hlt i (by omega)
      rw [Nat.mod_eq_of_lt hi] at h3
      have := ih (by omega)
      omega
  have h4 := hlt (q.length - 1) (by omega)
  rw [show q.length - 1 + 1 = q.length by omega, Nat.mod_self] at h4
  have h5 := hup (q.length - 1) (by omega)
  omega
end Go.Proofs.YtdfndcbakcmgiabDoor
namespace Go.Proofs.YtdfndcbakcmgiabDoor

/-! Threads that take their locks in rising order and give them back (pure). -/
theorem holdF_takes (k : Nat) : ∀ (us : List Nat) (b : Bool), (us.map Ins.take).foldl (stepB k) b = (b || decide (k ∈ us))
  | [], b => by simp
  | j :: us, b => by
    rw [List.map_cons, List.foldl_cons, holdF_takes k us]
    by_cases h : j = k
    · subst h; rw [stepB_take]; simp
    · rw [stepB_else (fun e => h (by cases e; rfl)) (fun e => by cases e)]
      have : (k ∈ j :: us) ↔ k ∈ us := by
        rw [List.mem_cons]
        exact ⟨fun e => e.resolve_left (fun e => h e.symm), .inr⟩
      simp only [this]
theorem holdF_gives (k : Nat) : ∀ (ds : List Nat) (b : Bool), (ds.map Ins.give).foldl (stepB k) b = (b && !decide (k ∈ ds))
  | [], b => by simp
  | j :: ds, b => by
    rw [List.map_cons, List.foldl_cons, holdF_gives k ds]
    by_cases h : j = k
    · subst h; rw [stepB_give]; simp
    · rw [stepB_else (fun e => by cases e) (fun e => h (by cases e; rfl))]
      have : (k ∈ j :: ds) ↔ k ∈ ds := by
        rw [List.mem_cons]
        exact ⟨fun e => e.resolve_left (fun e => h e.symm), .inr⟩
      simp only [this]
theorem hold_app (a b : List Ins) (k : Nat) : hold (a ++ b) k = b.foldl (stepB k) (hold a k) := by simp [hold, List.foldl_append]
theorem hold_takes (us : List Nat) (k : Nat) : hold (us.map Ins.take) k = decide (k ∈ us) := by rw [hold, holdF_takes]; simp
theorem hold_gives (a : List Ins) (ds : List Nat) (k : Nat) : hold (a ++ ds.map Ins.give) k = (hold a k && !decide (k ∈ ds)) := by rw [hold_app, holdF_gives]
def dotL (b : Bool) : List Ins := if b then [.dot] else []
theorem hold_dotL (a : List Ins) (b : Bool) (k : Nat) : hold (a ++ dotL b) k = hold a k := by
  cases b
  · simp [dotL]
  · rw [dotL, if_pos rfl, hold_snoc, stepB_else (fun e => by cases e) (fun e => by cases e)]
structure ClOk (T : List Ins) (us ds : List Nat) (b : Bool) : Prop where
  eq : T = (us.map Ins.take ++ dotL b) ++ ds.map Ins.give
  up : us.Pairwise (· < ·)
  lt : ∀ k ∈ us, k < 6
  nd : ds.Nodup
  mem : ∀ k, k ∈ ds ↔ k ∈ us
  len : T.length ≤ 12
theorem ClOk.take {T : List Ins} {us ds : List Nat} {b : Bool} (h : ClOk T us ds b) {n k : Nat} (hi : T[n]? = some (.take k)) : us[n]? = some k ∧ T.take n = (us.take n).map Ins.take := by
  have hn : n < us.length := by
    rcases Nat.lt_or_ge n us.length with h1 | h1
    · exact h1
    · rw [h.eq, List.append_assoc, List.getElem?_append_right (by rw [List.length_map]; exact h1)] at hi
      have := List.mem_of_getElem? hi
      rcases List.mem_append.1 this with h2 | h2
      · cases b <;> simp [dotL] at h2
      · obtain ⟨j, _, e⟩ := List.mem_map.1 h2
        cases e
  have hl : n < (us.map Ins.take).length := by rw [List.length_map]; exact hn
  constructor
  · rw [h.eq, List.append_assoc, List.getElem?_append_left hl, List.getElem?_map] at hi
    cases hu : us[n]? with
    | none => rw [hu] at hi; cases hi
    | some j =>
      rw [hu] at hi
      simp only [Option.map_some, Option.some.injEq] at hi
      cases hi; rfl
  · rw [h.eq, List.append_assoc, List.take_append_of_le_length (by omega), List.map_take]
theorem take_lt {us : List Nat} (h : us.Pairwise (· < ·)) {n k x : Nat} (hk : us[n]? = some k) (hx : x ∈ us.take n) : x < k := by
  obtain ⟨hn, e⟩ := List.getElem?_eq_some_iff.1 hk
  obtain ⟨i, hi, e2⟩ := List.getElem_of_mem hx
  rw [List.length_take] at hi
  rw [List.getElem_take] at e2
  rw [← e, ← e2]
  exact List.pairwise_iff_getElem.1 h i n (by omega) hn (by omega)
theorem ClOk.wfT {T : List Ins} {us ds : List Nat} {b : Bool} (h : ClOk T us ds b) {n k : Nat} (hi : T[n]? = some (.take k)) : hold (T.take n) k = false := by
  obtain ⟨h1, h2⟩ := h.take hi
  rw [h2, hold_takes, decide_eq_false]
  intro hm
  have := take_lt h.up h1 hm
  omega
theorem ClOk.rise {T : List Ins} {us ds : List Nat} {b : Bool} (h : ClOk T us ds b) {n k x : Nat} (hi : T[n]? = some (.take k)) (hx : hold (T.take n) x = true) : x < k := by
  obtain ⟨h1, h2⟩ := h.take hi
  rw [h2, hold_takes, decide_eq_true_iff] at hx
  exact take_lt h.up h1 hx
theorem ClOk.wfG {T : List Ins} {us ds : List Nat} {b : Bool} (h : ClOk T us ds b) {n k : Nat} (hi : T[n]? = some (.give k)) : hold (T.take n) k = true := by
  have hn : (us.map Ins.take ++ dotL b).length ≤ n := by
    rcases Nat.lt_or_ge n (us.map Ins.take ++ dotL b).length with h1 | h1
    · rw [h.eq, List.getElem?_append_left h1] at hi
      have := List.mem_of_getElem? hi
      rcases List.mem_append.1 this with h2 | h2
      · obtain ⟨j, _, e⟩ := List.mem_map.1 h2
        cases e
      · cases b <;> simp [dotL] at h2
    · exact h1
  have hi2 := hi
  rw [h.eq, List.getElem?_append_right hn, List.getElem?_map] at hi2
  cases hd : ds[n - (us.map Ins.take ++ dotL b).length]? with
  | none => rw [hd] at hi2; cases hi2
  | some j =>
    rw [hd] at hi2
    simp only [Option.map_some, Option.some.injEq] at hi2
    cases hi2
    have e : T.take n = (us.map Ins.take ++ dotL b) ++ (ds.take (n - (us.map Ins.take ++ dotL b).length)).map Ins.give := by
      rw [h.eq, List.take_append, List.take_of_length_le hn, List.map_take]
    have hm : k ∈ ds := List.mem_of_getElem? hd
    have hnt : k ∉ ds.take (n - (us.map Ins.take ++ dotL b).length) := fun hm2 => by
      obtain ⟨hl, e2⟩ := List.getElem?_eq_some_iff.1 hd
      obtain ⟨i, hi, e3⟩ := List.getElem_of_mem hm2
      rw [List.length_take] at hi
      rw [List.getElem_take] at e3
      exact List.pairwise_iff_getElem.1 h.nd i _ (by omega) hl (by omega) (by rw [e3, e2])
    rw [e, hold_gives, hold_dotL, hold_takes, decide_eq_true ((h.mem k).1 hm), decide_eq_false hnt]; rfl
theorem ClOk.fin {T : List Ins} {us ds : List Nat} {b : Bool} (h : ClOk T us ds b) (k : Nat) : hold T k = false := by
  rw [h.eq, hold_gives, hold_dotL, hold_takes]
  by_cases hk : k ∈ us
  · rw [decide_eq_true hk, decide_eq_true ((h.mem k).2 hk)]; rfl
  · rw [decide_eq_false hk]; rfl
theorem ClOk.ins {T : List Ins} {us ds : List Nat} {b : Bool} (h : ClOk T us ds b) : ∀ i ∈ T, i = .dot ∨ ∃ k, k < 6 ∧ (i = .take k ∨ i = .give k) := by
  intro i hi
  rw [h.eq] at hi
  rcases List.mem_append.1 hi with hi | hi
  · rcases List.mem_append.1 hi with hi | hi
    · obtain ⟨k, hk, rfl⟩ := List.mem_map.1 hi
      exact .inr ⟨k, h.lt k hk, .inl rfl⟩
    · cases b
      · simp [dotL] at hi
      · simp [dotL] at hi; exact .inl hi
  · obtain ⟨k, hk, rfl⟩ := List.mem_map.1 hi
    exact .inr ⟨k, h.lt k ((h.mem k).1 hk), .inr rfl⟩

structure ClmP (P : List (List Ins)) : Prop where
  pos : 0 < P.length
  n5 : P.length ≤ 5
  t0 : th P 0 = (List.range (P.length - 1)).map fun u => .start (u + 1)
  tr : ∀ t, 0 < t → t < P.length → ∃ us ds b, ClOk (th P t) us ds b
theorem th_out {P : List (List Ins)} {t : Nat} (h : P.length ≤ t) : th P t = [] := by
  unfold th; rw [List.getElem?_eq_none h]; rfl
theorem starts_get {m i : Nat} {x : Ins} (h : ((List.range m).map fun u => Ins.start (u + 1))[i]? = some x) : i < m ∧ x = .start (i + 1) := by
  rw [List.getElem?_map] at h
  rcases Nat.lt_or_ge i m with h1 | h1
  · rw [List.getElem?_range h1] at h
    simp only [Option.map_some, Option.some.injEq] at h
    exact ⟨h1, h.symm⟩
  · rw [List.getElem?_eq_none (by simpa using h1)] at h; cases h
theorem mem_th {P : List (List Ins)} {T : List Ins} (h : T ∈ P) : ∃ t, t < P.length ∧ th P t = T := by
  obtain ⟨t, ht, e⟩ := List.getElem_of_mem h
  exact ⟨t, ht, by unfold th; rw [List.getElem?_eq_getElem ht, e]; rfl⟩
theorem ClmP.t0i {P : List (List Ins)} (C : ClmP P) {n : Nat} {i : Ins} (h : (th P 0)[n]? = some i) : n < P.length - 1 ∧ i = .start (n + 1) := by
  rw [C.t0] at h; exact starts_get h
theorem ClmP.fin {P : List (List Ins)} (C : ClmP P) (t k : Nat) : hold (th P t) k = false := by
  rcases Nat.lt_or_ge t P.length with h1 | h1
  · rcases Nat.eq_zero_or_pos t with h0 | h0
    · subst h0
      rw [Bool.eq_false_iff]
      intro hh
      have := hold_mem hh
      obtain ⟨n, hn⟩ := List.getElem?_of_mem this
      obtain ⟨_, e⟩ := C.t0i hn
      cases e
    · obtain ⟨us, ds, b, h⟩ := C.tr t h0 h1
      exact h.fin k
  · rw [th_out h1]; rfl
theorem ClmP.rise {P : List (List Ins)} (C : ClmP P) {t n k x : Nat} (hi : (th P t)[n]? = some (.take k)) (hx : hold ((th P t).take n) x = true) : x < k := by
  rcases Nat.lt_or_ge t P.length with h1 | h1
  · rcases Nat.eq_zero_or_pos t with h0 | h0
    · subst h0
      obtain ⟨_, e⟩ := C.t0i hi
      cases e
    · obtain ⟨us, ds, b, h⟩ := C.tr t h0 h1
      exact h.rise hi hx
  · rw [th_out h1] at hi; simp at hi
theorem ClmP.shp {P : List (List Ins)} (C : ClmP P) : Shp P where
  pos := C.pos
  n5 := C.n5
  ok := fun T hT i hi => by
    obtain ⟨t, ht, rfl⟩ := mem_th hT
    obtain ⟨n, hn⟩ := List.getElem?_of_mem hi
    rcases Nat.eq_zero_or_pos t with h0 | h0
    · subst h0
      obtain ⟨h1, rfl⟩ := C.t0i hn
      show n + 1 < P.length
      omega
    · obtain ⟨us, ds, b, h⟩ := C.tr t h0 ht
      rcases h.ins i hi with rfl | ⟨k, hk, rfl | rfl⟩
      · trivial
      · exact hk
      · exact hk
  t0 := fun i hi => by
    obtain ⟨n, hn⟩ := List.getElem?_of_mem hi
    obtain ⟨h1, rfl⟩ := C.t0i hn
    exact ⟨n + 1, by omega, by omega, .inl rfl⟩
  tr := fun t h0 i hi => by
    rcases Nat.lt_or_ge t P.length with h1 | h1
    · obtain ⟨us, ds, b, h⟩ := C.tr t h0 h1
      exact h.ins i hi
    · rw [th_out h1] at hi; cases hi
  wfT := fun t n k hi => by
    rw [Bool.eq_false_iff]
    intro hh
    have := C.rise hi hh
    omega
  wfG := fun t n k hi => by
    rcases Nat.lt_or_ge t P.length with h1 | h1
    · rcases Nat.eq_zero_or_pos t with h0 | h0
      · subst h0
        obtain ⟨_, e⟩ := C.t0i hi
        cases e
      · obtain ⟨us, ds, b, h⟩ := C.tr t h0 h1
        exact h.wfG hi
    · rw [th_out h1] at hi; simp at hi
  once := fun i j u h1 h2 => by
    obtain ⟨_, e1⟩ := C.t0i h1
    obtain ⟨_, e2⟩ := C.t0i h2
    cases e1
    cases e2
    rfl
theorem ClmP.l12 {P : List (List Ins)} (C : ClmP P) : ∀ T ∈ P, T.length ≤ 12 := fun T hT => by
  obtain ⟨t, ht, rfl⟩ := mem_th hT
  rcases Nat.eq_zero_or_pos t with h0 | h0
  · subst h0
    have := C.n5
    rw [C.t0]; simp; omega
  · obtain ⟨us, ds, b, h⟩ := C.tr t h0 ht
    exact h.len
theorem thB_len : ∀ (T : List Ins), (thB T).length ≤ 2 * T.length
  | [] => by simp [thB]
  | i :: T => by
    have e : thB (i :: T) = i.bs ++ thB T := by simp [thB]
    have := thB_len T
    have h2 : i.bs.length ≤ 2 := by cases i <;> simp [Ins.bs]
    rw [e, List.length_append, List.length_cons]; omega
theorem txL_len : ∀ (P : List (List Ins)), (∀ T ∈ P, T.length ≤ 12) → (txL P).length ≤ 25 * P.length
  | [], _ => by simp [txL]
  | [T], h => by
    have := h T (List.mem_cons_self ..)
    have := thB_len T
    show (thB T).length ≤ 25 * 1
    omega
  | T :: U :: P, h => by
    have h1 := h T (List.mem_cons_self ..)
    have h2 := thB_len T
    have h3 := txL_len (U :: P) (fun V hV => h V (List.mem_cons_of_mem _ hV))
    show (thB T ++ 59 :: txL (U :: P)).length ≤ 25 * (T :: U :: P).length
    rw [List.length_append, List.length_cons]
    simp only [List.length_cons] at h3 ⊢
    omega
theorem ClmP.parse {P : List (List Ins)} (C : ClmP P) : (ckP (bt (txL P))).1 = 0 ∧ (beginW (thLoop (bt (txL P)) 0 0 [])).prog = prg P := by
  have h := txL_len P C.l12
  have := C.n5
  exact parse_ok P (by intro e; have := C.pos; rw [e] at this; cases this) C.n5 C.l12 C.shp.ok (by omega)

theorem clp_asc {P : List (List Ins)} (C : ClmP P) {W : Wd} (h : St P W) (hn : ∀ t, t < P.length → stateOf W t ≠ 1) : ∀ (d k u : Nat), 6 - k ≤ d → k < 6 → hs W k = some u → False := by
  intro d
  induction d with
  | zero => intro k u hd hk; omega
  | succ d ih =>
    intro k u hd hk hh
    obtain ⟨h1, h2, h3, h4, h5⟩ := h.holder C.shp C.fin hk hh
    cases knd_of C.shp h h2 with
    | unborn hb _ => rw [h3] at hb; cases hb
    | ended _ he _ => omega
    | ready _ _ _ _ hs1 => exact hn u h2 hs1
    | wants k' u' _ hi hk' hh' _ _ _ _ =>
      have := C.rise hi h5
      exact ih k' u' (by omega) hk' hh'
    | joins v _ hi _ _ _ =>
      rcases C.shp.tr u h1 _ (List.mem_of_getElem? hi) with e | ⟨_, _, e | e⟩ <;> cases e
theorem clp_nojoin {P : List (List Ins)} (C : ClmP P) {t n u : Nat} (ht : t < P.length) (h : (th P t)[n]? = some (.join u)) : False := by
  rcases Nat.eq_zero_or_pos t with h0 | h0
  · subst h0
    obtain ⟨_, e⟩ := C.t0i h
    cases e
  · rcases C.shp.tr t h0 _ (List.mem_of_getElem? h) with e | ⟨_, _, e | e⟩ <;> cases e
/-- Every run ends well, with all moves done. -/
theorem clp_run {P : List (List Ins)} (C : ClmP P) {ths : List ByteArray} (I0 : (beginW ths).Inv) (hp : (beginW ths).prog = prg P) {picks : ByteArray} {ms : List Nat} {h : Int} {WE : Wd} (r : RunsTo picks (beginW ths) 0 ms h WE) : h = 1 ∧ ms.length = (P.map List.length).sum := by
  have hs := st_goL C.shp _ _ _ (st_begin I0 hp) r.goes
  have hE := r.ends I0
  have hno : ∀ t, t < P.length → (∀ u, u < P.length → stateOf WE u ≠ 1) → stateOf WE t ≠ 2 ∧ stateOf WE t ≠ 3 := fun t ht hn => by
    cases knd_of C.shp hs ht with
    | unborn _ h1 => rw [h1]; decide
    | ended _ _ h1 => rw [h1]; decide
    | ready _ _ _ _ h1 => exact absurd h1 (hn t ht)
    | wants k u _ _ hk hh _ _ _ _ => exact absurd (clp_asc C hs hn _ k u (Nat.le_refl _) hk hh) id
    | joins u _ hi _ _ _ => exact absurd (clp_nojoin C ht hi) id
  cases hE with
  | fault hf =>
    obtain ⟨u, hu, h5⟩ := hf
    exact absurd h5 (hs.no5 C.shp (by rw [← hs.len]; exact hu))
  | stuck hn hex =>
    obtain ⟨u, hu, h23⟩ := hex
    rw [hs.len] at hu
    have := hno u hu (fun v hv => (hn v (by rw [hs.len]; exact hv)).1)
    omega
  | done hd =>
    refine ⟨rfl, ?_⟩
    have hend : ∀ t, t < P.length → bn WE t = true → pl WE t = (th P t).length := fun t ht hb => by
      have hd' := hd t (by rw [hs.len]; exact ht)
      cases knd_of C.shp hs ht with
      | unborn h1 _ => rw [hb] at h1; cases h1
      | ended _ h1 _ => exact h1
      | ready _ _ _ _ h1 => omega
      | wants _ _ _ _ _ _ _ _ h1 => omega
      | joins _ _ _ _ _ h1 => omega
    have h0 := hend 0 C.pos ((hs.born 0 C.pos).2 (.inl rfl))
    have hall : ∀ t, t < P.length → pl WE t = (th P t).length := fun t ht => by
      refine hend t ht ((hs.born t ht).2 ?_)
      rcases Nat.eq_zero_or_pos t with e | e
      · exact .inl e
      · refine .inr ⟨t - 1, by rw [h0, C.t0]; simp; omega, ?_⟩
        rw [C.t0, List.getElem?_map, List.getElem?_range (by omega), Option.map_some, show t - 1 + 1 = t by omega]
    have hpl : WE.place = P.map List.length := by
      apply List.ext_getElem?
      intro t
      rcases Nat.lt_or_ge t P.length with ht | ht
      · rw [hs.place ht, hall t ht, List.getElem?_map, th, List.getElem?_eq_getElem ht]; rfl
      · rw [List.getElem?_eq_none (by rw [hs.inv.good.ok.nl, hs.len]; exact ht), List.getElem?_eq_none (by simpa using ht)]
    have hl := (r.inv I0).2.2
    rw [begin_log0] at hl
    have := hs.sum
    rw [hpl] at this
    simp at hl
    omega
theorem clp_ring {P : List (List Ins)} (C : ClmP P) {ths : List ByteArray} (I0 : (beginW ths).Inv) (hp : (beginW ths).prog = prg P) {m : List Nat} {U : Wd} (hg : goL (beginW ths) m = some U) : ringW U = false := by
  have hs := st_goL C.shp _ _ _ (st_begin I0 hp) hg
  refine no_ring hs.inv.good (fun t => match (th P t)[pl U t]? with | some (.take k) => k | _ => 0) fun a u ha hu h2 hw hu2 => ?_
  rw [hs.len] at ha hu
  cases knd_of C.shp hs ha with
  | unborn _ h1 => rw [h2] at h1; cases h1
  | ended _ _ h1 => rw [h2] at h1; cases h1
  | ready _ _ _ _ h1 => rw [h2] at h1; cases h1
  | joins _ _ _ _ _ h1 => rw [h2] at h1; cases h1
  | wants k v _ hi hk hh _ hv _ hwv =>
    have hvu : v = u := by rw [hw] at hwv; omega
    subst hvu
    cases knd_of C.shp hs hu with
    | unborn _ h1 => rw [hu2] at h1; cases h1
    | ended _ _ h1 => rw [hu2] at h1; cases h1
    | ready _ _ _ _ h1 => rw [hu2] at h1; cases h1
    | joins _ _ _ _ _ h1 => rw [hu2] at h1; cases h1
    | wants k' v' _ hi' _ _ _ _ _ _ =>
      simp only [hi, hi']
      exact C.rise hi' ((hs.has k v hk hu).1 hh)
theorem clp_find {P : List (List Ins)} (C : ClmP P) {ths : List ByteArray} (I0 : (beginW ths).Inv) (hp : (beginW ths).prog = prg P) {ms : List Nat} {WE : Wd} (hg : goL (beginW ths) ms = some WE) : findS (aqsW WE) 100 = ([], false) := by
  refine find_none fun q hin => circ_rise (fun x hx y hy => ?_) q hin
  obtain ⟨j, A⟩ := ask_st C.shp I0 hp hg hx
  exact C.rise A.it ((A.hl y).1 hy).2
end Go.Proofs.YtdfndcbakcmgiabDoor
