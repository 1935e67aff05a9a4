import Derived.Test.YtdfndcbakcmgiabDoorT28
import Derived.Test.YtdfndcbakcmgiabDoorT24
namespace Go.Proofs.YtdfndcbakcmgiabDoor
open Go.RowKit

theorem letS_at (l : List Nat) (i x : Nat) (h : l[i]? = some x) (h6 : x < 6) (hi : i < (letS 97 l).size) : ((letS 97 l)[i].toNat : Int) = 97 + x := by
  obtain ⟨hi', rfl⟩ := List.getElem?_eq_some_iff.1 h
  show (((l.map fun t => UInt8.ofNat (97 + t)).toArray[i]'(by simpa using hi')).toNat : Int) = 97 + l[i]
  simp only [List.getElem_toArray, List.getElem_map]
  rw [UInt8.toNat_ofNat']; omega

theorem dN1 {w : World} {m : Nat} : ∃ k, w.drewN m = w.drewN k := ⟨m, rfl⟩
theorem dN2 {w : World} {m n : Nat} : ∃ k, (w.drewN m).drewN n = w.drewN k := ⟨m + n, by simp⟩
/-- Some lock stands in both. -/
def shareB (a b : List Nat) : Bool := decide (∃ x, x ∈ a ∧ x ∈ b)

set_option maxRecDepth 100000 in
set_option maxHeartbeats 2000000 in
theorem share_any (a b : List Nat) (ha : a.length ≤ 1000) (hb : b.length ≤ 1000) (ha6 : ∀ x ∈ a, x < 6) (hb6 : ∀ x ∈ b, x < 6) (w : World) :
    Calls Tryd.prog 78 #[.string (letS 97 a), .string (letS 97 b)] w fun e w' => e = .returned (.bool (shareB a b)) ∧ ∃ m, w' = w.drewN m := by
  have hsa := letS_size 97 a
  have hsb := letS_size 97 b
  go_enter Tryd.func78, Tryd.ntmps78
  go_wp2
  go_loopw [5] (fun y wr => ∃ i : Nat, i ≤ a.length ∧ y = .int .i64 (i : Int) ∧ Hid (∀ x, x ∈ a.take i → x ∉ b) ∧ ∃ m, wr = w.drewN m) (fun y _ => a.length - (intOf y).toNat)
  case atStart => exact ⟨0, Nat.zero_le _, rfl, by simp [Hid], 0, rfl⟩
  case round =>
    obtain ⟨i, hi, rfl, HN, m, rfl⟩ := hrel
    by_cases hil : i < a.length
    · obtain ⟨x, hx⟩ := get_some a i hil
      have hxa := List.mem_of_getElem? hx
      have hx6 := ha6 x hxa
      have hbx := letS_at a i x hx hx6 (by omega)
      have i0 : (0 : Int) ≤ (i : Int) := by omega
      have il : (i : Int) < (a.length : Int) := by omega
      have HN2 : Hid (x ∉ b → ∀ y, y ∈ a.take (i + 1) → y ∉ b) := by
        intro h y hy
        rw [List.take_add_one, hx] at hy
        rcases List.mem_append.1 hy with hy | hy
        · exact HN.out y hy
        · simp at hy; subst hy; exact h
      clear hx
      go_wp2
      go_loopw [6] (fun y wq => ∃ k : Nat, k ≤ b.length ∧ y = .int .i64 (k : Int) ∧ Hid (x ∉ b.take k) ∧ ∃ m, wq = w.drewN m) (fun y _ => b.length - (intOf y).toNat)
      case atStart => exact ⟨0, Nat.zero_le _, rfl, by simp [Hid], m, rfl⟩
      case round =>
        obtain ⟨k, hk, rfl, HM, m2, rfl⟩ := hrel
        by_cases hkl : k < b.length
        · obtain ⟨z, hz⟩ := get_some b k hkl
          have hzb := List.mem_of_getElem? hz
          have hz6 := hb6 z hzb
          have hbz := letS_at b k z hz hz6 (by omega)
          have k0 : (0 : Int) ≤ (k : Int) := by omega
          have kl : (k : Int) < (b.length : Int) := by omega
          by_cases hxz : x = z
          · have HD : Hid (shareB a b = true) := decide_eq_true ⟨x, hxa, by rw [hxz]; exact hzb⟩
            subst hxz
            clear hz HN2
            go_upto_region 7 with fail
            go_quiet (fail)
            go_wp2
            go_ret
            exact ⟨by rw [HD.out]; rfl, (by first | exact dN1 | exact dN2)⟩
          · have HM2 : Hid (x ∉ b.take (k + 1)) := by
              rw [Hid, List.take_add_one, hz]
              intro h
              rcases List.mem_append.1 h with h | h
              · exact HM.out h
              · simp at h; exact hxz h
            have hne : ((97 : Int) + (x : Int) == 97 + (z : Int)) = false := beq_false_of_ne (by omega)
            clear hz
            go_upto_region 7 with fail
            go_quiet (fail)
            go_wp2
            go_roundw
            case rel => exact ⟨k + 1, by omega, by go_num, HM2, (by first | exact dN1 | exact dN2)⟩
            case measure => (simp [intOf] <;> omega)
        · have kl : ¬ (k : Int) < (b.length : Int) := by omega
          have HM2 : Hid (x ∉ b) := by
            have h := HM.out
            rw [show k = b.length by omega, List.take_length] at h
            exact h
          go_wp2
          go_roundw
          case rel => exact ⟨i + 1, by omega, by go_num, HN2.out HM2.out, (by first | exact dN1 | exact dN2)⟩
          case measure => (simp [intOf] <;> omega)
    · have il : ¬ (i : Int) < (a.length : Int) := by omega
      have HD : Hid (shareB a b = false) := by
        have h := HN.out
        rw [show i = a.length by omega, List.take_length] at h
        exact decide_eq_false fun ⟨x, h1, h2⟩ => h x h1 h2
      go_wp2
      go_ret
      exact ⟨by rw [HD.out]; rfl, (by first | exact dN1 | exact dN2)⟩
end Go.Proofs.YtdfndcbakcmgiabDoor
namespace Go.Proofs.YtdfndcbakcmgiabDoor
open Go.RowKit

/-! An ask, by numbers. -/
structure Aq where
  th : Nat
  pl : Nat
  k : Nat
  hl : List Nat
  ev : Option Nat
def evI : Option Nat → Int
  | none => -1
  | some n => n
def Aq.ak (x : Aq) : Ak := ⟨x.th, x.pl, letS 97 [x.k], letS 97 x.hl, evI x.ev⟩
structure Aq.Ok (x : Aq) : Prop where
  th : x.th < 5
  k : x.k < 6
  hl : ∀ y ∈ x.hl, y < 6
  len : x.hl.length ≤ 6
  ev : ∀ n, x.ev = some n → n < 60
theorem evI_inj {a b : Option Nat} (h : evI a = evI b) : a = b := by
  cases a <;> cases b <;> simp only [evI] at h <;> first | rfl | omega | (congr 1; omega)
def AqAt (w : World) (g o : Nat) (x : Aq) : Prop :=
  w.cell? ⟨g, o, none⟩ = some (.int .i64 x.th) ∧ w.cell? ⟨g, o + 1, none⟩ = some (.int .i64 x.pl) ∧ w.cell? ⟨g, o + 2, none⟩ = some (.string (letS 97 [x.k])) ∧ w.cell? ⟨g, o + 3, none⟩ = some (.string (letS 97 x.hl)) ∧ w.cell? ⟨g, o + 4, none⟩ = some (.int .i64 (evI x.ev))
def AqsAt (w : World) (a : Option Addr) (l : List Aq) : Prop := ∀ (k : Nat) (x : Aq), l[k]? = some x → ∃ g, a = some ⟨g, 0, none⟩ ∧ AqAt w g (k * 5) x
theorem AqAt.below {w w' : World} {g o : Nat} {x : Aq} (h : AqAt w g o x) (hb : Below w.heap.size w w') : AqAt w' g o x :=
  ⟨cell_later hb h.1, cell_later hb h.2.1, cell_later hb h.2.2.1, cell_later hb h.2.2.2.1, cell_later hb h.2.2.2.2⟩
theorem AqsAt.below {w w' : World} {a : Option Addr} {l : List Aq} (h : AqsAt w a l) (hb : Below w.heap.size w w') : AqsAt w' a l := fun k x hx => by
  obtain ⟨g, h1, h2⟩ := h k x hx
  exact ⟨g, h1, h2.below hb⟩
theorem aqsAt_of {w : World} {a : Option Addr} {l : List Aq} (h : AksAt w a (l.map Aq.ak)) : AqsAt w a l := fun k x hx => by
  obtain ⟨g, h1, h2, h3, h4, h5, h6⟩ := h k x.ak (by rw [List.getElem?_map, hx]; rfl)
  exact ⟨g, h1, h2, h3, h4, h5, h6⟩

/-! Is an ask among some events? -/
def boundB (ring : List Aq) (ev : List Nat) : Bool := decide (∃ x, x ∈ ring ∧ ∃ n, n ∈ ev ∧ x.ev = some n)

set_option maxRecDepth 100000 in
set_option maxHeartbeats 2000000 in
theorem bound_any (a b : Option Addr) (ca cb : Nat) (ring : List Aq) (ev : List Nat) (hr : ring.length ≤ 100) (hv : ev.length ≤ 100) (nr nv : Nat) (hnr : nr = ring.length) (hnv : nv = ev.length) (w : World) (ha : AqsAt w a ring) (hb : IntsAt w b (intN ev)) :
    Calls Tryd.prog 68 #[.slice a nr ca, .slice b nv cb] w fun e w' => e = .returned (.bool (boundB ring ev)) ∧ ∃ m, w' = w.drewN m := by
  subst hnr hnv
  go_enter Tryd.func68, Tryd.ntmps68
  go_wp2
  go_loopw [5] (fun y wr => ∃ i : Nat, i ≤ ring.length ∧ y = .int .i64 (i : Int) ∧ Hid (∀ x, x ∈ ring.take i → ∀ n, n ∈ ev → x.ev ≠ some n) ∧ ∃ m, wr = w.drewN m) (fun y _ => ring.length - (intOf y).toNat)
  case atStart => exact ⟨0, Nat.zero_le _, rfl, by simp [Hid], 0, rfl⟩
  case round =>
    obtain ⟨i, hi, rfl, HN, m, rfl⟩ := hrel
    by_cases hil : i < ring.length
    · obtain ⟨x, hx⟩ := get_some ring i hil
      have hxa := List.mem_of_getElem? hx
      obtain ⟨g, e1, _, _, _, _, c1⟩ := ha i x hx
      subst e1
      have i0 : (0 : Int) ≤ (i : Int) := by omega
      have il : (i : Int) < (ring.length : Int) := by omega
      have HN2 : Hid ((∀ n, n ∈ ev → x.ev ≠ some n) → ∀ y, y ∈ ring.take (i + 1) → ∀ n, n ∈ ev → y.ev ≠ some n) := by
        intro h y hy
        rw [List.take_add_one, hx] at hy
        rcases List.mem_append.1 hy with hy | hy
        · exact HN.out y hy
        · simp at hy; subst hy; exact h
      clear hx
      go_wp2
      go_loopw [6] (fun y wq => ∃ k : Nat, k ≤ ev.length ∧ y = .int .i64 (k : Int) ∧ Hid (∀ n, n ∈ ev.take k → x.ev ≠ some n) ∧ ∃ m, wq = w.drewN m) (fun y _ => ev.length - (intOf y).toNat)
      case atStart => exact ⟨0, Nat.zero_le _, rfl, by simp [Hid], m, rfl⟩
      case round =>
        obtain ⟨k, hk, rfl, HM, m2, rfl⟩ := hrel
        by_cases hkl : k < ev.length
        · obtain ⟨z, hz⟩ := get_some ev k hkl
          have hzb := List.mem_of_getElem? hz
          obtain ⟨g2, o2, e2, c2⟩ := hb k (z : Int) (by simp [intN, hz])
          subst e2
          have k0 : (0 : Int) ≤ (k : Int) := by omega
          have kl : (k : Int) < (ev.length : Int) := by omega
          by_cases hxz : x.ev = some z
          · have HD : Hid (boundB ring ev = true) := decide_eq_true ⟨x, hxa, z, hzb, hxz⟩
            rw [hxz] at c1
            simp only [evI] at c1
            clear hz HN2 hxz
            go_upto_region 7 with fail
            go_quiet (fail)
            go_wp2
            go_ret
            exact ⟨by rw [HD.out]; rfl, (by first | exact dN1 | exact dN2)⟩
          · have HM2 : Hid (∀ n, n ∈ ev.take (k + 1) → x.ev ≠ some n) := by
              rw [Hid, List.take_add_one, hz]
              intro n h
              rcases List.mem_append.1 h with h | h
              · exact HM.out n h
              · simp at h; subst h; exact hxz
            have hne : (evI x.ev == (z : Int)) = false := beq_false_of_ne fun h => hxz (evI_inj (b := some z) h)
            generalize evI x.ev = q at *
            clear hz hxz
            go_upto_region 7 with fail
            go_quiet (fail)
            go_wp2
            go_roundw
            case rel => exact ⟨k + 1, by omega, by go_num, HM2, (by first | exact dN1 | exact dN2)⟩
            case measure => (simp [intOf] <;> omega)
        · have kl : ¬ (k : Int) < (ev.length : Int) := by omega
          have HM2 : Hid (∀ n, n ∈ ev → x.ev ≠ some n) := by
            have h := HM.out
            rw [show k = ev.length by omega, List.take_length] at h
            exact h
          go_wp2
          go_roundw
          case rel => exact ⟨i + 1, by omega, by go_num, HN2.out HM2.out, (by first | exact dN1 | exact dN2)⟩
          case measure => (simp [intOf] <;> omega)
    · have il : ¬ (i : Int) < (ring.length : Int) := by omega
      have HD : Hid (boundB ring ev = false) := by
        have h := HN.out
        rw [show i = ring.length by omega, List.take_length] at h
        exact decide_eq_false fun ⟨x, h1, n, h2, h3⟩ => h x h1 n h2 h3
      go_wp2
      go_ret
      exact ⟨by rw [HD.out]; rfl, (by first | exact dN1 | exact dN2)⟩

/-! Do two asks hold a common lock? -/
def gatedB (ring : List Aq) : Bool := !decide (ring.Pairwise fun y x => shareB x.hl y.hl = false)

set_option maxRecDepth 100000 in
set_option maxHeartbeats 2000000 in
theorem gated_any (a : Option Addr) (ca : Nat) (ring : List Aq) (hr : ring.length ≤ 100) (hok : ∀ x ∈ ring, x.Ok) (nr : Nat) (hnr : nr = ring.length) (w : World) (ha : AqsAt w a ring) :
    Calls Tryd.prog 64 #[.slice a nr ca] w fun e w' => e = .returned (.bool (gatedB ring)) ∧ ∃ m, w' = w.drewN m := by
  subst hnr
  go_enter Tryd.func64, Tryd.ntmps64
  go_wp2
  go_loopw [3] (fun y wr => ∃ i : Nat, i ≤ ring.length ∧ y = .int .i64 (i : Int) ∧ Hid ((ring.take i).Pairwise fun y x => shareB x.hl y.hl = false) ∧ ∃ m, wr = w.drewN m) (fun y _ => ring.length - (intOf y).toNat)
  case atStart => exact ⟨0, Nat.zero_le _, rfl, by simp [Hid], 0, rfl⟩
  case round =>
    obtain ⟨i, hi, rfl, HN, m, rfl⟩ := hrel
    by_cases hil : i < ring.length
    · obtain ⟨x, hx⟩ := get_some ring i hil
      have hxo := hok x (List.mem_of_getElem? hx)
      obtain ⟨g, e1, _, _, _, c1, _⟩ := ha i x hx
      subst e1
      have i0 : (0 : Int) ≤ (i : Int) := by omega
      have il : (i : Int) < (ring.length : Int) := by omega
      have HN2 : Hid ((∀ y, y ∈ ring.take i → shareB x.hl y.hl = false) → (ring.take (i + 1)).Pairwise fun y x => shareB x.hl y.hl = false) := by
        intro h
        rw [List.take_add_one, hx]
        refine List.pairwise_append.2 ⟨HN.out, by simp, fun y hy z hz => ?_⟩
        simp at hz; subst hz; exact h y hy
      have HNo : Hid (∀ (k : Nat) (y : Aq), k < i → ring[k]? = some y → shareB x.hl y.hl = true → gatedB ring = true) := by
        intro k y hk hy hs
        rw [gatedB, Bool.not_eq_true']
        refine decide_eq_false fun hP => ?_
        obtain ⟨h1, h2⟩ := List.getElem?_eq_some_iff.1 hx
        obtain ⟨h3, h4⟩ := List.getElem?_eq_some_iff.1 hy
        have := List.pairwise_iff_getElem.1 hP k i h3 h1 hk
        rw [h2, h4, hs] at this
        cases this
      clear hx
      go_wp2
      go_loopw [4] (fun y wq => ∃ k : Nat, k ≤ i ∧ y = .int .i64 (k : Int) ∧ Hid (∀ y, y ∈ ring.take k → shareB x.hl y.hl = false) ∧ ∃ m, wq = w.drewN m) (fun y _ => i - (intOf y).toNat)
      case atStart => exact ⟨0, Nat.zero_le _, rfl, by simp [Hid], m, rfl⟩
      case round =>
        obtain ⟨k, hk, rfl, HM, m2, hq⟩ := hrel
        have HQ : Hid (wr = w.drewN m2) := hq
        clear hq
        by_cases hkl : k < i
        · obtain ⟨z, hz⟩ := get_some ring k (by omega)
          have hzo := hok z (List.mem_of_getElem? hz)
          obtain ⟨g2, e2, _, _, _, c2, _⟩ := ha k z hz
          simp only [Option.some.injEq, Addr.mk.injEq, and_true] at e2
          subst e2
          have k0 : (0 : Int) ≤ (k : Int) := by omega
          have kl : (k : Int) < (i : Int) := by omega
          have c1q : wr.cell? ⟨g, i * 5 + 3, none⟩ = some (.string (letS 97 x.hl)) := by rw [HQ.out]; exact c1
          have c2q : wr.cell? ⟨g, k * 5 + 3, none⟩ = some (.string (letS 97 z.hl)) := by rw [HQ.out]; exact c2
          have kr : (k : Int) < (ring.length : Int) := by omega
          have hS := fun w => share_any x.hl z.hl (by have := hxo.len; omega) (by have := hzo.len; omega) hxo.hl hzo.hl w
          have HG := HNo.out k z hkl hz
          have HM2 : Hid (shareB x.hl z.hl = false → ∀ y, y ∈ ring.take (k + 1) → shareB x.hl y.hl = false) := by
            intro hs y hy
            rw [List.take_add_one, hz] at hy
            rcases List.mem_append.1 hy with h | h
            · exact HM.out y h
            · simp at h; subst h; exact hs
          have HG2 : Hid (shareB x.hl z.hl = true → gatedB ring = true) := HG
          clear HG hz
          generalize shareB x.hl z.hl = b at *
          cases b with
          | true =>
            have HD : Hid (gatedB ring = true) := HG2.out rfl
            clear HM2 HG2
            go_upto_region 7 with fail
            go_quiet (first | (go_at_call 78; exact Calls.quiet_of (hS _)))
            go_wp2
            go_ret
            exact ⟨by rw [HD.out]; rfl, by rw [HQ.out]; exact (by first | exact dN1 | exact dN2)⟩
          | false =>
            go_upto_region 7 with fail
            go_quiet (first | (go_at_call 78; exact Calls.quiet_of (hS _)))
            go_wp2
            go_roundw
            case rel => exact ⟨k + 1, by omega, by go_num, HM2.out rfl, by rw [HQ.out]; exact (by first | exact dN1 | exact dN2)⟩
            case measure => (simp [intOf] <;> omega)
        · have kl : ¬ (k : Int) < (i : Int) := by omega
          have HM2 : Hid (∀ y, y ∈ ring.take i → shareB x.hl y.hl = false) := by
            have h := HM.out
            rw [show k = i by omega] at h
            exact h
          go_wp2
          go_roundw
          case rel => exact ⟨i + 1, by omega, by go_num, HN2.out HM2.out, by rw [HQ.out]; exact (by first | exact dN1 | exact dN2)⟩
          case measure => (simp [intOf] <;> omega)
    · have il : ¬ (i : Int) < (ring.length : Int) := by omega
      have HD : Hid (gatedB ring = false) := by
        have h := HN.out
        rw [show i = ring.length by omega, List.take_length] at h
        rw [Hid, gatedB, decide_eq_true h]; rfl
      go_wp2
      go_ret
      exact ⟨by rw [HD.out]; rfl, (by first | exact dN1 | exact dN2)⟩
end Go.Proofs.YtdfndcbakcmgiabDoor
namespace Go.Proofs.YtdfndcbakcmgiabDoor
open Go.RowKit

/-! The last event of a thread below n. -/
def lastN (l : List Mv) (t : Nat) : Nat → Option Nat
  | 0 => none
  | n + 1 => if (l[n]?.map fun a => decide (a.th = t)).getD false = true then some n else lastN l t n
def toN (x : Aq) (n : Nat) : Nat := match x.ev with
  | none => n
  | some m => min m n
def lastQ (l : List Mv) (x : Aq) : Option Nat := lastN l x.th (toN x l.length)
def lastV (o : Option Nat) : Value := .tuple #[.int .i64 (o.getD 0 : Nat), .bool o.isSome]
def aqC (x : Aq) : Array Value := #[.int .i64 x.th, .int .i64 x.pl, .string (letS 97 [x.k]), .string (letS 97 x.hl), .int .i64 (evI x.ev)]
abbrev akBox (w : World) (x : Aq) : World := w.alloc (.cells (aqC x) 37)

set_option maxRecDepth 100000 in
set_option maxHeartbeats 2000000 in
theorem LastAhead_any (g c : Nat) (Wn : Value) (l : List Mv) (w : World) (hE : MvsAt w g l) (hl : l.length ≤ 60) (n : Nat) (hn : n = l.length) (x : Aq) (cs : Array Value) (hcs : cs = aqC x) :
    Calls Tryd.prog 80 #[.agg #[.slice (some ⟨g, 0, none⟩) n c, Wn], .agg cs] w fun e w' => e = .returned (lastV (lastQ l x)) ∧ Below w.heap.size w w' := by
  subst hn hcs
  have hB1 : Below w.heap.size w (akBox (trBox w g l.length c Wn) x) := (two_new (Below.refl _ _)).2.2.1
  have T0 : TrIn w (akBox (trBox w g l.length c Wn) x) g l.length c Wn := (TrIn.new w g l.length c Wn).below ((Below.refl _ _).alloc (Nat.le_refl _) _)
  have y0 : (akBox (trBox w g l.length c Wn) x).cell? ⟨w.heap.size + 1, 0, none⟩ = some (.int .i64 x.th) := cellB (heap_alloc2_new _ _ _) rfl
  have y4 : (akBox (trBox w g l.length c Wn) x).cell? ⟨w.heap.size + 1, 4, none⟩ = some (.int .i64 (evI x.ev)) := cellB (heap_alloc2_new _ _ _) rfl
  have hE1 := hE.below hB1
  have x0 := T0.c0
  clear T0
  unfold akBox trBox at x0 y0 y4 hE1 hB1
  unfold aqC at x0 y0 y4 hE1 hB1 ⊢
  generalize hX : (w.alloc (.cells #[.slice (some ⟨g, 0, none⟩) l.length c, Wn] 52)).alloc (.cells #[.int .i64 x.th, .int .i64 x.pl, .string (letS 97 [x.k]), .string (letS 97 x.hl), .int .i64 (evI x.ev)] 37) = X at *
  have HX := show Hid _ from hX
  clear hX
  generalize hres : lastQ l x = res
  have HR : Hid (lastN l x.th (min l.length (toN x l.length)) = res) := by
    rw [Hid, ← hres, lastQ]
    congr 1
    have : toN x l.length ≤ l.length := by
      unfold toN; split <;> omega
    omega
  clear hres
  go_enter Tryd.func80, Tryd.ntmps80
  go_wp2
  rw [HX.out]
  go_loopw [6] (fun y wr => ∃ n : Nat, n ≤ l.length ∧ y = .int .i64 ((n : Int) - 1) ∧ Hid (lastN l x.th (min n (toN x l.length)) = res) ∧ Below X.heap.size X wr) (fun y _ => (intOf y + 1).toNat)
  case atStart => exact ⟨l.length, Nat.le_refl _, rfl, HR, Below.refl _ _⟩
  case round =>
    obtain ⟨n, hn, rfl, HE, hBr⟩ := hrel
    clear HR
    have q0 := cell_later hBr x0
    have z0 := cell_later hBr y0
    have z4 := cell_later hBr y4
    have hBw := hB1.trans (hBr.mono hB1.size)
    cases n with
    | zero =>
      have hres : res = none := by have h := HE.out; rw [Nat.zero_min] at h; exact h.symm
      subst hres
      clear HE
      go_wp2
      go_ret2
      exact ⟨rfl, hBw⟩
    | succ n =>
      have hnI : ((n + 1 : Nat) : Int) - 1 = (n : Int) := by omega
      rw [hnI]
      obtain ⟨a, ha⟩ := get_some l n (by omega)
      obtain ⟨d0, _, _, _⟩ := (hE1.below hBr).get ha
      have n0 : (0 : Int) ≤ (n : Int) := by omega
      have nl : (n : Int) < (l.length : Int) := by omega
      by_cases hah : n < toN x l.length
      · have HE1 : Hid ((if a.th = x.th then some n else lastN l x.th (min n (toN x l.length))) = res) := by
          have h := HE.out
          rw [show min (n + 1) (toN x l.length) = n + 1 by omega, lastN, ha] at h
          rw [Hid, ← h, show min n (toN x l.length) = n by omega]
          simp
        clear HE ha
        by_cases hev : x.ev = none
        · rw [hev] at z4
          simp only [evI] at z4
          by_cases ht : a.th = x.th
          · have hres : res = some n := by have h := HE1.out; rw [if_pos ht] at h; exact h.symm
            subst hres
            rw [ht] at d0
            clear HE1
            go_upto_region 5 with fail
            go_quiet (fail)
            go_wp2
            go_ret2
            exact ⟨rfl, hBw.trans ((below_drewN _ _).mono hBw.size)⟩
          · have HN : Hid (lastN l x.th (min n (toN x l.length)) = res) := by have h := HE1.out; rw [if_neg ht] at h; exact h
            have hne : ((a.th : Int) == (x.th : Int)) = false := beq_false_of_ne (by omega)
            clear HE1
            go_upto_region 5 with fail
            go_quiet (fail)
            go_wp2
            go_roundw
            case rel => exact ⟨n, by omega, rfl, HN, hBr.trans ((below_drewN _ _).mono hBr.size)⟩
            case measure => (simp [intOf] <;> omega)
        · obtain ⟨m, hm⟩ := Option.ne_none_iff_exists'.1 hev
          rw [hm] at z4
          simp only [evI] at z4
          have hm1 : ((m : Int) == -1) = false := beq_false_of_ne (by omega)
          have hnm : (n : Int) < (m : Int) := by
            simp only [toN, hm] at hah
            omega
          by_cases ht : a.th = x.th
          · have hres : res = some n := by have h := HE1.out; rw [if_pos ht] at h; exact h.symm
            subst hres
            rw [ht] at d0
            clear HE1 hm hah
            go_upto_region 5 with fail
            go_quiet (fail)
            go_wp2
            go_ret2
            exact ⟨rfl, hBw.trans ((below_drewN _ _).mono hBw.size)⟩
          · have HN : Hid (lastN l x.th (min n (toN x l.length)) = res) := by have h := HE1.out; rw [if_neg ht] at h; exact h
            have hne : ((a.th : Int) == (x.th : Int)) = false := beq_false_of_ne (by omega)
            clear HE1 hm hah
            go_upto_region 5 with fail
            go_quiet (fail)
            go_wp2
            go_roundw
            case rel => exact ⟨n, by omega, rfl, HN, hBr.trans ((below_drewN _ _).mono hBr.size)⟩
            case measure => (simp [intOf] <;> omega)
      · have HN : Hid (lastN l x.th (min n (toN x l.length)) = res) := by
          have h := HE.out
          rw [Hid, ← h]
          congr 1
          omega
        obtain ⟨m, hm⟩ : ∃ m, x.ev = some m := by
          cases hx : x.ev with
          | none => simp only [toN, hx] at hah; omega
          | some m => exact ⟨m, rfl⟩
        rw [hm] at z4
        simp only [evI] at z4
        have hm1 : ((m : Int) == -1) = false := beq_false_of_ne (by omega)
        have hnm : ¬ (n : Int) < (m : Int) := by
          simp only [toN, hm] at hah
          omega
        have hnd : decide ((n : Int) < (m : Int)) = false := decide_eq_false hnm
        have hnd2 : decide (n < m) = false := decide_eq_false (by omega)
        clear HE ha hm hah
        go_upto_region 5 with fail
        go_quiet (fail)
        go_wp2
        go_roundw
        case rel => exact ⟨n, by omega, rfl, HN, hBr.trans ((below_drewN _ _).mono hBr.size)⟩
        case measure => (simp [intOf] <;> omega)
end Go.Proofs.YtdfndcbakcmgiabDoor
namespace Go.Proofs.YtdfndcbakcmgiabDoor
open Go.RowKit

/-! Must ask x come ahead of ask y? -/
def cAB (l : List Mv) (x y : Aq) : Bool := match y.ev with
  | some m => bfL l (evI x.ev) m
  | none => match lastQ l y with
    | none => false
    | some q => bfL l (evI x.ev) q

set_option maxRecDepth 100000 in
set_option maxHeartbeats 4000000 in
theorem comesAhead_any (g c : Nat) (Wn : Value) (l : List Mv) (w : World) (hE : MvsAt w g l) (hl : l.length ≤ 60) (n : Nat) (hn : n = l.length) (x y : Aq) (cs ds : Array Value) (hcs : cs = aqC x) (hds : ds = aqC y) :
    Calls Tryd.prog 79 #[.agg #[.slice (some ⟨g, 0, none⟩) n c, Wn], .agg cs, .agg ds] w fun e w' => e = .returned (.bool (cAB l x y)) ∧ Below w.heap.size w w' := by
  subst hn hcs hds
  have hB1 : Below w.heap.size w (akBox (trBox w g l.length c Wn) x) := (two_new (Below.refl _ _)).2.2.1
  have hB2 : Below w.heap.size w (akBox (akBox (trBox w g l.length c Wn) x) y) := hB1.alloc hB1.size _
  have hB3 : Below (akBox (trBox w g l.length c Wn) x).heap.size (akBox (trBox w g l.length c Wn) x) (akBox (akBox (trBox w g l.length c Wn) x) y) := (Below.refl _ _).alloc (Nat.le_refl _) _
  have T0 : TrIn w (akBox (trBox w g l.length c Wn) x) g l.length c Wn := (TrIn.new w g l.length c Wn).below ((Below.refl _ _).alloc (Nat.le_refl _) _)
  have T1 := T0.below hB3
  have hsz : (akBox (trBox w g l.length c Wn) x).heap.size = w.heap.size + 2 := by simp
  have x4 : (akBox (akBox (trBox w g l.length c Wn) x) y).cell? ⟨w.heap.size + 1, 4, none⟩ = some (.int .i64 (evI x.ev)) := cell_later hB3 (cellB (heap_alloc2_new _ _ _) rfl)
  have yA : ∀ (i : Nat) v, (aqC y)[i]? = some v → (akBox (akBox (trBox w g l.length c Wn) x) y).cell? ⟨w.heap.size + 2, i, none⟩ = some v := fun i v hv => by
    rw [← hsz]; exact cellB (heap_alloc_new _ _) hv
  have y0 := yA 0 _ rfl
  have y1 := yA 1 _ rfl
  have y2 := yA 2 _ rfl
  have y3 := yA 3 _ rfl
  have y4 := yA 4 _ rfl
  clear yA hB1 hB3 T0 hsz
  have hE1 := hE.below hB2
  have x0 := T1.c0
  have x1 := T1.c1
  clear T1
  unfold akBox trBox at x0 x1 x4 y0 y1 y2 y3 y4 hE1 hB2
  unfold aqC at x0 x1 x4 y0 y1 y2 y3 y4 hE1 hB2 ⊢
  generalize hX : ((w.alloc (.cells #[.slice (some ⟨g, 0, none⟩) l.length c, Wn] 52)).alloc (.cells #[.int .i64 x.th, .int .i64 x.pl, .string (letS 97 [x.k]), .string (letS 97 x.hl), .int .i64 (evI x.ev)] 37)).alloc (.cells #[.int .i64 y.th, .int .i64 y.pl, .string (letS 97 [y.k]), .string (letS 97 y.hl), .int .i64 (evI y.ev)] 37) = X at *
  have HX := show Hid _ from hX
  clear hX
  have hBf := fun (i j : Int) w' (hE' : MvsAt w' g l) => BeforeT_any g c Wn l w' hE' hl i j
  generalize hres : cAB l x y = res
  have hcx : cAB l x y = match y.ev with
    | some m => bfL l (evI x.ev) m
    | none => match lastQ l y with
      | none => false
      | some q => bfL l (evI x.ev) q := rfl
  rw [hres] at hcx
  clear hres
  generalize evI x.ev = vx at *
  cases hev : y.ev with
  | some m =>
    have hr : bfL l vx m = res := by rw [hev] at hcx; exact hcx.symm
    have HBf := hBf vx m X hE1
    rw [hr] at HBf
    have hm1 : ((m : Int) == -1) = false := beq_false_of_ne (by omega)
    have hevI : evI (some m) = (m : Int) := rfl
    rw [hev, hevI] at y4 HX
    rw [hevI]
    clear hcx hr hev hBf hevI
    go_enter Tryd.func79, Tryd.ntmps79
    go_upto_region 1 with fail
    rw [HX.out]
    go_wp2_with (first | (go_at_call 85; refine HBf.mono ?_; rintro e w3 ⟨rfl, hb3⟩))
    go_ret
    exact ⟨rfl, hB2.trans (hb3.mono hB2.size)⟩
  | none =>
    have hLa := LastAhead_any g c Wn l X hE1 hl l.length rfl y _ rfl
    unfold aqC at hLa
    have hevI : evI none = -1 := rfl
    rw [hev, hevI] at y4 HX hLa
    rw [hevI]
    cases hq : lastQ l y with
    | none =>
      have hr : res = false := by rw [hev, hq] at hcx; exact hcx
      subst hr
      rw [hq] at hLa
      clear hcx hq hev hBf hevI
      go_enter Tryd.func79, Tryd.ntmps79
      go_upto_region 1 with fail
      rw [HX.out]
      go_wp2_with (first | (go_at_call 80; refine hLa.mono ?_; rintro e w3 ⟨rfl, hb3⟩; unfold lastV))
      go_ret
      exact ⟨rfl, hB2.trans (hb3.mono hB2.size)⟩
    | some q =>
      have hr : bfL l vx q = res := by rw [hev, hq] at hcx; exact hcx.symm
      rw [hq] at hLa
      have HBf := fun w' hE' => hBf vx q w' hE'
      rw [hr] at HBf
      clear hcx hq hev hBf hr hevI
      go_enter Tryd.func79, Tryd.ntmps79
      go_upto_region 1 with fail
      rw [HX.out]
      go_wp2_with (first
        | (go_at_call 80; refine hLa.mono ?_; rintro e w3 ⟨rfl, hb3⟩; unfold lastV; have u0 := cell_later hb3 x0; have u1 := cell_later hb3 x1; have u4 := cell_later hb3 x4; have hE3 := hE1.below hb3)
        | (go_at_call 85; refine (HBf _ hE3).mono ?_; rintro e w4 ⟨rfl, hb4⟩))
      go_ret
      exact ⟨rfl, (hB2.trans (hb3.mono hB2.size)).trans (hb4.mono (Nat.le_trans hB2.size hb3.size))⟩
end Go.Proofs.YtdfndcbakcmgiabDoor
namespace Go.Proofs.YtdfndcbakcmgiabDoor
open Go.RowKit

/-! Must an ask of the ring come ahead of another? -/
def orderedB (l : List Mv) (ring : List Aq) : Bool := ring.any fun x => ring.any fun y => cAB l x y

set_option maxRecDepth 100000 in
set_option maxHeartbeats 8000000 in
theorem ordered_any (g c : Nat) (Wn : Value) (l : List Mv) (w : World) (hE : MvsAt w g l) (hl : l.length ≤ 60) (n : Nat) (hn : n = l.length) (a : Option Addr) (ca : Nat) (ring : List Aq) (hr : ring.length ≤ 100) (nr : Nat) (hnr : nr = ring.length) (ha : AqsAt w a ring) :
    Calls Tryd.prog 65 #[.agg #[.slice (some ⟨g, 0, none⟩) n c, Wn], .slice a nr ca] w fun e w' => e = .returned (.bool (orderedB l ring)) ∧ Below w.heap.size w w' := by
  subst hn hnr
  have hB0 : Below w.heap.size w (trBox w g l.length c Wn) := (Below.refl _ _).alloc (Nat.le_refl _) _
  have T0 := TrIn.new w g l.length c Wn
  have hE0 := hE.below hB0
  have ha0 := ha.below hB0
  go_enter Tryd.func65, Tryd.ntmps65
  go_wp2
  go_loopw [5] (fun y wr => ∃ i : Nat, i ≤ ring.length ∧ y = .int .i64 (i : Int) ∧ Hid (∀ x, x ∈ ring.take i → ∀ y, y ∈ ring → cAB l x y = false) ∧ Below (trBox w g l.length c Wn).heap.size (trBox w g l.length c Wn) wr) (fun y _ => ring.length - (intOf y).toNat)
  case atStart => exact ⟨0, Nat.zero_le _, rfl, by simp [Hid], Below.refl _ _⟩
  case round =>
    obtain ⟨i, hi, rfl, HN, hBr⟩ := hrel
    generalize hX : trBox w g l.length c Wn = X at *
    clear hX
    by_cases hil : i < ring.length
    · obtain ⟨x, hx⟩ := get_some ring i hil
      have hxa := List.mem_of_getElem? hx
      obtain ⟨gr, e1, hA1⟩ := ha0 i x hx
      subst e1
      have i0 : (0 : Int) ≤ (i : Int) := by omega
      have il : (i : Int) < (ring.length : Int) := by omega
      have HN2 : Hid ((∀ y, y ∈ ring → cAB l x y = false) → ∀ z, z ∈ ring.take (i + 1) → ∀ y, y ∈ ring → cAB l z y = false) := by
        intro h z hz
        rw [List.take_add_one, hx] at hz
        rcases List.mem_append.1 hz with hz | hz
        · exact HN.out z hz
        · simp at hz; subst hz; exact h
      clear hx
      go_wp2
      go_loopw [6] (fun y wq => ∃ k : Nat, k ≤ ring.length ∧ y = .int .i64 (k : Int) ∧ Hid (∀ y, y ∈ ring.take k → cAB l x y = false) ∧ Below X.heap.size X wq) (fun y _ => ring.length - (intOf y).toNat)
      case atStart => exact ⟨0, Nat.zero_le _, rfl, by simp [Hid], hBr⟩
      case round =>
        clear hBr
        obtain ⟨k, hk, rfl, HM, hBr⟩ := hrel
        by_cases hkl : k < ring.length
        · obtain ⟨z, hz⟩ := get_some ring k hkl
          have hzb := List.mem_of_getElem? hz
          obtain ⟨g2, e2, hA2⟩ := ha0 k z hz
          simp only [Option.some.injEq, Addr.mk.injEq, and_true] at e2
          subst e2
          have k0 : (0 : Int) ≤ (k : Int) := by omega
          have kl : (k : Int) < (ring.length : Int) := by omega
          have hEr := hE0.below hBr
          have hCa := fun w' (hE' : MvsAt w' g l) => comesAhead_any g c Wn l w' hE' hl l.length rfl x z _ _ rfl rfl
          unfold aqC at hCa
          have HM2 : Hid (cAB l x z = false → ∀ y, y ∈ ring.take (k + 1) → cAB l x y = false) := by
            intro hs y hy
            rw [List.take_add_one, hz] at hy
            rcases List.mem_append.1 hy with h | h
            · exact HM.out y h
            · simp at h; subst h; exact hs
          have HG2 : Hid (cAB l x z = true → orderedB l ring = true) := fun h => by
            rw [orderedB, List.any_eq_true]
            exact ⟨x, hxa, by rw [List.any_eq_true]; exact ⟨z, hzb, h⟩⟩
          obtain ⟨c0, c1, c2, c3, c4⟩ := hA1.below hBr
          obtain ⟨d0, d1, d2, d3, d4⟩ := hA2.below hBr
          have t0 := (T0.below hBr).c0
          have t1 := (T0.below hBr).c1
          have hBw := hB0.trans (hBr.mono hB0.size)
          generalize evI x.ev = vx at *
          generalize evI z.ev = vz at *
          generalize hb : cAB l x z = b at *
          have HCa : Hid (∀ w' (hE' : MvsAt w' g l), _) := hCa
          clear hz hb hA1 hA2
          go_upto_region 7 with fail
          go_region_held3 (fun w' => w'.cell? ⟨w.heap.size, 0, none⟩ = some (.slice (some ⟨g, 0, none⟩) l.length c) ∧ w'.cell? ⟨w.heap.size, 1, none⟩ = some Wn
              ∧ w'.cell? ⟨gr, i * 5, none⟩ = some (.int .i64 x.th) ∧ w'.cell? ⟨gr, i * 5 + 1, none⟩ = some (.int .i64 x.pl) ∧ w'.cell? ⟨gr, i * 5 + 2, none⟩ = some (.string (letS 97 [x.k])) ∧ w'.cell? ⟨gr, i * 5 + 3, none⟩ = some (.string (letS 97 x.hl)) ∧ w'.cell? ⟨gr, i * 5 + 4, none⟩ = some (.int .i64 vx)
              ∧ w'.cell? ⟨gr, k * 5, none⟩ = some (.int .i64 z.th) ∧ w'.cell? ⟨gr, k * 5 + 1, none⟩ = some (.int .i64 z.pl) ∧ w'.cell? ⟨gr, k * 5 + 2, none⟩ = some (.string (letS 97 [z.k])) ∧ w'.cell? ⟨gr, k * 5 + 3, none⟩ = some (.string (letS 97 z.hl)) ∧ w'.cell? ⟨gr, k * 5 + 4, none⟩ = some (.int .i64 vz))
            (first | (refine ⟨cell_later ?_ t0, cell_later ?_ t1, cell_later ?_ c0, cell_later ?_ c1, cell_later ?_ c2, cell_later ?_ c3, cell_later ?_ c4, cell_later ?_ d0, cell_later ?_ d1, cell_later ?_ d2, cell_later ?_ d3, cell_later ?_ d4⟩ <;> first | exact Below.refl _ _ | exact (Below.refl _ _).drew | exact hx1 | exact hx1.drew) | go_keep)
            (first | (go_at_call 79; refine (HCa.out _ (by first | exact hEr | exact hEr.below (Below.refl _ _).drew)).mono ?_; rintro e w2 ⟨rfl, hbb⟩; have hx1 : Below wr.heap.size wr w2 := (by first | exact hbb | exact below_of_drew hbb)))
          have hBq := hBw.trans (hx1.mono hBw.size)
          have hBX := hBr.trans (hx1.mono hBr.size)
          cases b with
          | true =>
            have HD : Hid (orderedB l ring = true) := HG2.out rfl
            go_wp2
            go_ret
            exact ⟨by rw [HD.out]; rfl, hBq⟩
          | false =>
            go_wp2
            go_roundw
            case rel => exact ⟨k + 1, by omega, by go_num, HM2.out rfl, hBX⟩
            case measure => (simp [intOf] <;> omega)
        · have kl : ¬ (k : Int) < (ring.length : Int) := by omega
          have HM2 : Hid (∀ y, y ∈ ring → cAB l x y = false) := by
            have h := HM.out
            rw [show k = ring.length by omega, List.take_length] at h
            exact h
          go_wp2
          go_roundw
          case rel => exact ⟨i + 1, by omega, by go_num, HN2.out HM2.out, hBr⟩
          case measure => (simp [intOf] <;> omega)
    · have il : ¬ (i : Int) < (ring.length : Int) := by omega
      have HD : Hid (orderedB l ring = false) := by
        have h := HN.out
        rw [show i = ring.length by omega, List.take_length] at h
        rw [Hid, orderedB, Bool.eq_false_iff]
        intro hh
        rw [List.any_eq_true] at hh
        obtain ⟨x, hx, hh⟩ := hh
        rw [List.any_eq_true] at hh
        obtain ⟨y, hy, hh⟩ := hh
        rw [h x hx y hy] at hh
        cases hh
      have hBw := hB0.trans (hBr.mono hB0.size)
      go_wp2
      go_ret
      exact ⟨by rw [HD.out]; rfl, hBw⟩
end Go.Proofs.YtdfndcbakcmgiabDoor
