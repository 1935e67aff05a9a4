import Derived.Test.YtdfndcbakcmgiaaR4
namespace Go.Proofs.Ytdfndcbakcmgiaa
open Go.RowKit

/-! The least closed set. -/
def Sub (a b : List Bool) : Prop := ∀ i : Nat, a[i]? = some true → b[i]? = some true
def ClosedS (log : List Ev) (m : List Bool) : Prop := ∀ j : Nat, m[j]? = some true → ClosedAt log m j
theorem Need.mono {log : List Ev} {m M : List Bool} {j i : Nat} (h : Need log m j i) (hs : Sub m M) : Need log M j i := by
  cases h with
  | ahead h1 h2 => exact .ahead h1 h2
  | flag b u h1 h2 h3 h4 => exact .flag b u h1 h2 h3 h4
  | give b a u k h1 h2 h3 h4 h5 h6 h7 h8 h9 => exact .give b a u k h1 h2 h3 h4 (hs k h5) h6 h7 h8 h9
/-- m lies between m0 and every closed set that has m0. -/
structure Mid (log : List Ev) (m0 m : List Bool) : Prop where
  len : m.length = log.length
  sub : Sub m0 m
  least : ∀ M, ClosedS log M → Sub m0 M → Sub m M
theorem Mid.start (log : List Ev) (m : List Bool) (h : m.length = log.length) : Mid log m m := ⟨h, fun _ h => h, fun _ _ h => h⟩
theorem Mid.add {log : List Ev} {m0 m : List Bool} (h : Mid log m0 m) {j i : Nat} (hj : m[j]? = some true) (hn : Need log m j i) : Mid log m0 (m.set i true) := by
  refine ⟨by simpa using h.len, fun x hx => ?_, fun M hM hs x hx => ?_⟩
  · rw [List.getElem?_set]
    have := h.sub x hx
    split
    · rename_i e
      subst e
      rw [if_pos (List.getElem?_eq_some_iff.1 this).1]
    · exact this
  · rw [List.getElem?_set] at hx
    have hsub := h.least M hM hs
    split at hx
    · rename_i e
      subst e
      exact hM j (hsub j hj) _ (hn.mono hsub)
    · exact hsub x hx
def cntF (m : List Bool) : Nat := (m.filter (fun b => !b)).length
theorem cntF_set : ∀ (m : List Bool) (i : Nat), m[i]? = some false → cntF (m.set i true) + 1 = cntF m
  | [], i, h => by simp at h
  | b :: m, 0, h => by simp at h; subst h; simp [cntF]
  | b :: m, i + 1, h => by
    have := cntF_set m i (by simpa using h)
    cases b <;> simp [cntF] at this ⊢ <;> omega
/-- The false cells of a row, as the memory has them. -/
def isF : Option Value → Bool
  | some (.bool false) => true
  | _ => false
def cntW (w : World) (g n : Nat) : Nat := ((List.range n).filter fun x => isF (w.cell? ⟨g, x, none⟩)).length
theorem cntW_eq (w : World) (g : Nat) (m : List Bool) (h : ∀ x b, m[x]? = some b → w.cell? ⟨g, x, none⟩ = some (.bool b)) : cntW w g m.length = cntF m := by
  unfold cntW cntF
  have e : (List.range m.length).filter (fun x => isF (w.cell? ⟨g, x, none⟩)) = (List.range m.length).filter (fun x => !(m[x]?.getD true)) := by
    apply List.filter_congr
    intro x hx
    have hx' : x < m.length := List.mem_range.1 hx
    rw [h x m[x] (by simp [hx'])]
    cases hb : m[x] <;> simp [isF, hx', hb]
  rw [e]
  clear e h
  induction m with
  | nil => rfl
  | cons b m ih =>
    rw [List.length_cons, List.range_succ_eq_map, List.filter_cons]
    cases b <;> simp [List.filter_map, Function.comp_def] <;> simpa using ih

set_option maxRecDepth 100000 in
set_option maxHeartbeats 8000000 in
theorem close_any (p gi ci : Nat) (W : Wd) (w : World) (Bs : Nat) {gP cP gB cB gL cL gH cH gS cS : Nat} {aG : Option Addr} {cG : Nat} (hn5 : W.prog.length ≤ 5) (hL : LogOk W) (hl : W.log.length ≤ 60) (m0 : List Bool)
    (hkeep : ∀ w', Below Bs w w' → WIn w' p W gP cP gB cB gL cL gH cH gS cS aG cG) (hBs : Bs ≤ w.heap.size) (hown : w.ownsRow Bs 4 1 (.slice (some ⟨gi, 0, none⟩) W.log.length ci) W.log.length (m0.map Value.bool)) (hm0 : m0.length = W.log.length) :
    Calls Try.prog 64 #[.pointer (some ⟨p, 0, none⟩), .slice (some ⟨gi, 0, none⟩) W.log.length ci] w fun e w' => ∃ m, e = .returned (.slice (some ⟨gi, 0, none⟩) W.log.length ci) ∧ Below Bs w w' ∧ Mid W.log m0 m ∧ ClosedS W.log m ∧ w'.ownsRow Bs 4 1 (.slice (some ⟨gi, 0, none⟩) W.log.length ci) W.log.length (m.map Value.bool) := by
  have cellM : ∀ (w' : World) (m : List Bool), m.length = W.log.length → w'.ownsRow Bs 4 1 (.slice (some ⟨gi, 0, none⟩) W.log.length ci) W.log.length (m.map Value.bool) → ∀ (x : Nat) (b : Bool), m[x]? = some b → w'.cell? ⟨gi, x, none⟩ = some (.bool b) := fun w' m hml ho x b hx => by
    have hxl : x < W.log.length := by rw [← hml]; exact (List.getElem?_eq_some_iff.1 hx).1
    rw [ho.cellAt x (by omega)]
    simp [hx]
  go_enter Try.func64, Try.ntmps64
  go_wp2
  go_loopw [5] (fun x wr => ∃ (ag : Bool) (m : List Bool), x = .bool ag ∧ Mid W.log m0 m ∧ Hid (ag = false → ClosedS W.log m) ∧ wr.ownsRow Bs 4 1 (.slice (some ⟨gi, 0, none⟩) W.log.length ci) W.log.length (m.map Value.bool) ∧ Below Bs w wr) (fun x wr => 2 * cntW wr gi W.log.length + (match x with | .bool true => 1 | _ => 0))
  case atStart => exact ⟨true, m0, rfl, Mid.start _ _ hm0, (fun h => by cases h), hown, Below.refl _ _⟩
  case round =>
    obtain ⟨ag, m, rfl, hMid, HC, ho, hBr⟩ := hrel
    cases ag with
    | false =>
      go_wp2
      go_ret
      exact ⟨rfl, hBr, m, hMid, HC.out (by trivial), ho⟩
    | true =>
      clear HC
      have HC0 : Hid (cntW wr gi W.log.length = cntF m) := by rw [Hid, ← hMid.len]; exact cntW_eq wr gi m (cellM wr m hMid.len ho)
      go_wp2
      go_loopw [5, 6] (fun x z wy => ∃ (ag : Bool) (j : Nat) (m' : List Bool), j ≤ W.log.length ∧ x = .bool ag ∧ z = .int .i64 (j : Int) ∧ Mid W.log m0 m' ∧ Hid ((ag = false → ∀ y, y < j → m'[y]? = some true → ClosedAt W.log m' y) ∧ (ag = true → cntF m' < cntF m) ∧ cntF m' ≤ cntF m) ∧ wy.ownsRow Bs 4 1 (.slice (some ⟨gi, 0, none⟩) W.log.length ci) W.log.length (m'.map Value.bool) ∧ Below Bs w wy) (fun _ z _ => W.log.length - (intOf z).toNat)
      case atStart => exact ⟨false, 0, m, Nat.zero_le _, rfl, rfl, hMid, ⟨fun _ y hy => by omega, (fun h => by cases h), Nat.le_refl _⟩, ho, hBr⟩
      case round =>
        obtain ⟨ag, j, m', hjn, rfl, rfl, hMid', HI, ho', hBr'⟩ := hrel
        have hW := hkeep wr hBr'
        have fG := hW.fG
        by_cases hjl : j < W.log.length
        · have j0 : (0 : Int) ≤ (j : Int) := by omega
          have jl : (j : Int) < (W.log.length : Int) := by omega
          clear hMid ho hBr
          go_wp2
          go_loopw [5] (fun x wz => ∃ (ag : Bool) (m' : List Bool), x = .bool ag ∧ Mid W.log m0 m' ∧ Hid ((ag = false → ∀ y, y < j → m'[y]? = some true → ClosedAt W.log m' y) ∧ (ag = true → cntF m' < cntF m) ∧ cntF m' ≤ cntF m) ∧ wz.ownsRow Bs 4 1 (.slice (some ⟨gi, 0, none⟩) W.log.length ci) W.log.length (m'.map Value.bool) ∧ Below Bs w wz) (fun _ wz => cntW wz gi W.log.length)
          case atStart => exact ⟨ag, m', rfl, hMid', HI, ho', hBr'⟩
          case round =>
            obtain ⟨ag, m', rfl, hMid', HI, ho', hBr'⟩ := hrel
            obtain ⟨y, hy⟩ := get_some m' j (by rw [hMid'.len]; exact hjl)
            have cy := cellM wr m' hMid'.len ho' j y hy
            cases y with
            | false =>
              have HI2 : Hid ((ag = false → ∀ y, y < j + 1 → m'[y]? = some true → ClosedAt W.log m' y) ∧ (ag = true → cntF m' < cntF m) ∧ cntF m' ≤ cntF m) := ⟨fun h1 y h2 h3 => by
                by_cases hyj : y = j
                · subst hyj; rw [hy] at h3; cases h3
                · exact HI.out.1 h1 y (by omega) h3, HI.out.2⟩
              clear HI hy
              go_wp2
              go_roundw
              case rel => exact ⟨ag, j + 1, m', by omega, rfl, rfl, hMid', HI2, ho', hBr'⟩
              case measure => (simp [intOf] <;> omega)
            | true =>
              have hNd := needs_any p j gi ci W wr (hkeep wr hBr') hn5 hL hjl hl m' hMid'.len (cellM wr m' hMid'.len ho') _ rfl
              have HCN : Hid (cntW wr gi W.log.length = cntF m') := by rw [Hid, ← hMid'.len]; exact cntW_eq wr gi m' (cellM wr m' hMid'.len ho')
              have HY : Hid (m'[j]? = some true) := hy
              clear hy
              go_upto_region 9 with (first | (go_at_call 95; refine hNd.mono ?_; rintro e w2 ⟨r, rfl, hb2, hr⟩))
              have hB2 : Below Bs w w2 := hBr'.trans (hb2.mono (Nat.le_trans hBs hBr'.size))
              have ho2 := ho'.kept (grownBy_of_below hb2) (.inr (by simp [Value.ownBlock]))
              rcases hr with ⟨rfl, hcl⟩ | ⟨i, rfl, hil, hif, hnd⟩
              · have HI2 : Hid ((ag = false → ∀ y, y < j + 1 → m'[y]? = some true → ClosedAt W.log m' y) ∧ (ag = true → cntF m' < cntF m) ∧ cntF m' ≤ cntF m) := ⟨fun h1 y h2 h3 => by
                  by_cases hyj : y = j
                  · subst hyj; exact hcl
                  · exact HI.out.1 h1 y (by omega) h3, HI.out.2⟩
                clear HI hNd hcl
                go_wp2
                go_roundw
                case rel => exact ⟨ag, j + 1, m', by omega, rfl, rfl, hMid', HI2, ho2, hB2⟩
                case measure => (simp [intOf] <;> omega)
              · have ci' := cellM w2 m' hMid'.len ho2 i false hif
                have zi' : w2.frozen? ⟨gi, i, none⟩ = false := ho2.frozenAt i
                have hM2 := hMid'.add HY.out hnd
                have hcf := cntF_set m' i hif
                have hst := (ho2.stored i (.bool true)).1
                rw [← List.map_set] at hst
                have i0 : (0 : Int) ≤ (i : Int) := by omega
                have il : (i : Int) < (W.log.length : Int) := by omega
                have HI2 : Hid ((true = false → ∀ y, y < j → (m'.set i true)[y]? = some true → ClosedAt W.log (m'.set i true) y) ∧ (true = true → cntF (m'.set i true) < cntF m) ∧ cntF (m'.set i true) ≤ cntF m) := ⟨(fun h => by cases h), (fun _ => by have := HI.out.2.2; omega), by have := HI.out.2.2; omega⟩
                have HCM : Hid (cntF (m'.set i true) + 1 = cntF m') := hcf
                have HGB : Hid (Bs ≤ gi) := (ho2.lt gi rfl).1
                clear HI hNd hif hnd hcf
                go_wp2
                go_roundw
                case rel => exact ⟨true, m'.set i true, rfl, hM2, HI2, hst, hB2.setCell HGB.out _⟩
                case measure =>
                  have h1 := HCN.out
                  have h2 : cntW (w2.setCell ⟨gi, i, none⟩ (.bool true)) gi W.log.length = cntF (m'.set i true) := by rw [← hM2.len]; exact cntW_eq _ gi _ (cellM _ _ hM2.len hst)
                  have h3 := HCM.out
                  omega
        · have hje : j = W.log.length := by omega
          have hnl : ¬ (j : Int) < (W.log.length : Int) := by omega
          have HF : Hid ((ag = false → ClosedS W.log m')) := fun hag y hy => HI.out.1 hag y (by have := (List.getElem?_eq_some_iff.1 hy).1; rw [hMid'.len] at this; omega) hy
          have HC1 : Hid (cntW wr gi W.log.length = cntF m') := by rw [Hid, ← hMid'.len]; exact cntW_eq wr gi m' (cellM wr m' hMid'.len ho')
          clear hW hje
          go_wp2
          go_roundw
          case rel => exact ⟨ag, m', rfl, hMid', HF, ho', hBr'⟩
          case measure =>
            have h0 := HC0.out
            have h1 := HC1.out
            obtain ⟨_, h3, h4⟩ := HI.out
            rw [h0, h1]
            cases ag with
            | true => have := h3 rfl; show 2 * cntF m' + 1 < 2 * cntF m + 1; omega
            | false => show 2 * cntF m' + 0 < 2 * cntF m + 1; omega
end Go.Proofs.Ytdfndcbakcmgiaa
namespace Go.Proofs.Ytdfndcbakcmgiaa
open Go.RowKit
attribute [local go_sem ↓] mkB_fold

/-- A list of ints that was handed in, as it is read. -/
def IntsAt (w : World) (a : Option Addr) (l : List Int) : Prop := ∀ (k : Nat) (x : Int), l[k]? = some x → ∃ g o, a = some ⟨g, o, none⟩ ∧ w.cell? ⟨g, o + k, none⟩ = some (.int .i64 x)
theorem IntsAt.below {w w' : World} {a : Option Addr} {l : List Int} (h : IntsAt w a l) (hb : Below w.heap.size w w') : IntsAt w' a l := fun k x hx => by
  obtain ⟨g, o, e, c⟩ := h k x hx
  exact ⟨g, o, e, cell_later hb c⟩
def markE (n : Nat) (l : List Int) : List Bool := l.foldl (fun m x => m.set x.toNat true) (List.replicate n false)
theorem markE_snoc (n : Nat) (l : List Int) (x : Int) : markE n (l ++ [x]) = (markE n l).set x.toNat true := by simp [markE]
theorem markE_len (n : Nat) (l : List Int) : (markE n l).length = n := by
  unfold markE
  suffices h : ∀ m : List Bool, (l.foldl (fun m x => m.set x.toNat true) m).length = m.length by rw [h]; simp
  induction l with
  | nil => intro m; rfl
  | cons a l ih => intro m; simp only [List.foldl_cons]; rw [ih]; simp
/-- The numbers of the events of a set. -/
def listB (m : List Bool) (t : Nat) : List Nat := (List.range t).filter fun x => m[x]?.getD false
theorem listB_yes {m : List Bool} {t : Nat} (h : m[t]?.getD false = true) : listB m (t + 1) = listB m t ++ [t] := by simp [listB, List.range_succ, h]
theorem listB_no {m : List Bool} {t : Nat} (h : m[t]?.getD false = false) : listB m (t + 1) = listB m t := by simp [listB, List.range_succ, h]
theorem listB_len (m : List Bool) (t : Nat) : (listB m t).length ≤ t := by
  have := List.length_filter_le (fun x => m[x]?.getD false) (List.range t)
  simpa [listB] using this

def inR (n : Nat) (l : List Int) : Prop := ∀ x ∈ l, 0 ≤ x ∧ x < n

theorem refClose_bad (s sch : ByteArray) (a : Option Addr) (c n : Nat) (x : Int) (hx : x ≠ 0) (w : World) (hwd : ∀ w, Calls Try.prog 49 #[.string s, .string sch] w fun e w' => e = .returned (.tuple #[.pointer none, .int .i64 x]) ∧ Below w.heap.size w w') :
    Calls Try.prog 29 #[.string s, .string sch, .slice a n c] w fun e w' => e = .returned (.tuple #[.slice none 0 0, .int .i64 x]) ∧ Below w.heap.size w w' := by
  have hb : (x != 0) = true := by simpa using hx
  go_enter Try.func29, Try.ntmps29
  go_wp2_with (first | (go_at_call 49; refine (hwd _).mono ?_; rintro e w1 ⟨rfl, hB1⟩))
  go_ret2
  exact ⟨rfl, hB1⟩
theorem refClose_err (s sch : ByteArray) (a : Option Addr) (c n : Nat) (w : World) (h : (ckP s).1 ≠ 0) :
    Calls Try.prog 29 #[.string s, .string sch, .slice a n c] w fun e w' => e = .returned (.tuple #[.slice none 0 0, .int .i64 (ckP s).1]) ∧ Below w.heap.size w w' :=
  refClose_bad s sch a c n _ h w (fun w => world_err s sch w h)
theorem refClose_none (s sch : ByteArray) (a : Option Addr) (c n : Nat) (hsch : sch.size ≤ maxLen) (w : World) (h0 : (ckP s).1 = 0) (hW : toLoop sch (beginW (thLoop s 0 0 [])) 0 = none) :
    Calls Try.prog 29 #[.string s, .string sch, .slice a n c] w fun e w' => e = .returned (.tuple #[.slice none 0 0, .int .i64 5]) ∧ Below w.heap.size w w' :=
  refClose_bad s sch a c n 5 (by decide) w (fun w => world_none s sch w h0 (ckP_zero s h0).1 hsch (begin_inv s h0) hW)

set_option maxRecDepth 100000 in
set_option maxHeartbeats 8000000 in
theorem refClose_ok (s sch : ByteArray) (a : Option Addr) (c : Nat) (l : List Int) (hll : l.length ≤ maxLen) (hsch : sch.size ≤ maxLen) (w : World) (hA : IntsAt w a l) (h0 : (ckP s).1 = 0) (W : Wd) (hW : toLoop sch (beginW (thLoop s 0 0 [])) 0 = some W) :
    Calls Try.prog 29 #[.string s, .string sch, .slice a l.length c] w fun e w' => Below w.heap.size w w' ∧
      ((¬ inR W.log.length l ∧ e = .returned (.tuple #[.slice none 0 0, .int .i64 6])) ∨
       (inR W.log.length l ∧ ∃ m v, Mid W.log (markE W.log.length l) m ∧ ClosedS W.log m ∧ e = .returned (.tuple #[v, .int .i64 0]) ∧ w'.ownsRow w.heap.size 3 1 v (listB m W.log.length).length ((listB m W.log.length).map fun (n : Nat) => Value.int .i64 (n : Int)))) := by
  have I0 := begin_inv s h0
  have hwd := fun w => world_ok s sch w h0 (ckP_zero s h0).1 hsch I0 W hW
  have hLO := toLoop_logOk sch _ 0 _ W rfl I0 (begin_logOk _) hW
  unfold maxLen at hll
  clear h0 hW I0
  go_enter Try.func29, Try.ntmps29
  go_upto_region 4 with (first | (go_at_call 49; refine (hwd _).mono ?_; rintro e w1 ⟨p, rfl, hB1, hR1, I1⟩; clear hwd))
  obtain ⟨gP, cP, gB, cB, gL, cL, gH, cH, gS, cS, aG, cG, hWi⟩ := hR1.wIn I1.good.ok
  have fG := hWi.fG
  have hl60 := I1.small
  have hn5 := I1.good.n5
  obtain ⟨i0, hi0, hz0, hz1, hz2⟩ := info_split infoBool
  obtain ⟨wm, hmk, hom, hgm⟩ := run_make_full (P := Try.prog) w1 w1.heap.size 82 4 i0 (.bool false) 1 Try.underlying82 hi0 hz0 hz1 .i64 .i64 W.log.length (by rw [hz2]; omega) (by unfold maxLen; omega) (Nat.le_refl _)
  rw [mkB_fold] at hmk
  rw [madeB] at hom
  have hBm : Below w1.heap.size w1 wm := below_grown (Below.refl _ _) (Nat.le_refl _) hgm (fun k hk => by cases hk)
  have hA1 := hA.below hB1
  clear hi0 hz0 hz1 hz2 hgm hA
  go_wp2
  go_loopw [11] (fun x wr => ∃ k : Nat, k ≤ l.length ∧ x = .int .i64 (k : Int) ∧ Hid (∀ x ∈ l.take k, 0 ≤ x ∧ x < W.log.length) ∧ wr.ownsRow w1.heap.size 4 1 (.slice (some ⟨w1.heap.size, 0, none⟩) W.log.length W.log.length) W.log.length ((markE W.log.length (l.take k)).map Value.bool) ∧ Below w1.heap.size w1 wr) (fun x _ => l.length - (intOf x).toNat)
  case atStart => exact ⟨0, Nat.zero_le _, rfl, (fun x hx => by simp at hx), by simpa [markE] using hom, hBm⟩
  case round =>
    obtain ⟨k, hkl, rfl, HIn, ho, hBr⟩ := hrel
    clear hmk hom hBm
    by_cases hk : k < l.length
    · obtain ⟨x, hx⟩ := get_some l k hk
      obtain ⟨g, o, hae, cx⟩ := (hA1.below hBr) k x hx
      subst hae
      have htk : l.take (k + 1) = l.take k ++ [x] := by
        rw [List.take_add_one, hx]; rfl
      have k0 : (0 : Int) ≤ (k : Int) := by omega
      have kl : (k : Int) < (l.length : Int) := by omega
      have hxm : x ∈ l := List.mem_of_getElem? hx
      by_cases hx0 : x < 0
      · go_wp2
        go_ret2
        exact ⟨hB1.trans (hBr.mono hB1.size), .inl ⟨fun h => by have := (h x hxm).1; omega, rfl⟩⟩
      · by_cases hxn : (W.log.length : Int) ≤ x
        · go_wp2
          go_ret2
          exact ⟨hB1.trans (hBr.mono hB1.size), .inl ⟨fun h => by have := (h x hxm).2; omega, rfl⟩⟩
        · obtain ⟨y, rfl⟩ : ∃ y : Nat, x = y := ⟨x.toNat, by omega⟩
          have hyl : y < W.log.length := by omega
          obtain ⟨z, hz⟩ := get_some (markE W.log.length (l.take k)) y (by rw [markE_len]; exact hyl)
          have cz : wr.cell? ⟨w1.heap.size, y, none⟩ = some (.bool z) := by rw [ho.cellAt y (by omega)]; simp [hz]
          have zz : wr.frozen? ⟨w1.heap.size, y, none⟩ = false := ho.frozenAt y
          have hst := (ho.stored y (.bool true)).1
          rw [← List.map_set] at hst
          have HIn2 : Hid (∀ x ∈ l.take (k + 1), 0 ≤ x ∧ x < W.log.length) := fun x hx => by
            rw [htk, List.mem_append] at hx
            rcases hx with hx | hx
            · exact HIn.out x hx
            · simp at hx; omega
          have HMK : Hid (markE W.log.length (l.take (k + 1)) = (markE W.log.length (l.take k)).set y true) := by rw [Hid, htk, markE_snoc]; rfl
          clear HIn hz htk hx hxm
          go_wp2
          go_roundw
          case rel => exact ⟨k + 1, by omega, rfl, HIn2, by rw [HMK.out]; exact hst, hBr.setCell (Nat.le_refl _) _⟩
          case measure => (simp [intOf] <;> omega)
    · have hke : k = l.length := by omega
      have htake : l.take k = l := List.take_of_length_le (by omega)
      rw [htake] at ho HIn
      have hkl' : ¬ (k : Int) < (l.length : Int) := by omega
      have hCl := close_any p w1.heap.size W.log.length W wr w1.heap.size hn5 hLO hl60 (markE W.log.length l) (fun w' hw => hWi.below (hBr.trans hw)) hBr.size ho (markE_len _ _)
      have HIN : Hid (inR W.log.length l) := HIn
      clear hke htake HIn
      go_upto_region 12 with (first | (go_at_call 64; refine hCl.mono ?_; rintro e w3 ⟨m, rfl, hb3, hMid, hCS, ho3⟩))
      have cellM : ∀ (x : Nat) (b : Bool), m[x]? = some b → w3.cell? ⟨w1.heap.size, x, none⟩ = some (.bool b) := fun x b hx => by
        have hxl : x < W.log.length := by rw [← hMid.len]; exact (List.getElem?_eq_some_iff.1 hx).1
        rw [ho3.cellAt x (by omega)]
        simp [hx]
      have hB3 : Below w.heap.size w w3 := hB1.trans ((hBr.trans hb3).mono hB1.size)
      have hml := hMid.len
      have HM : Hid (Mid W.log (markE W.log.length l) m ∧ ClosedS W.log m) := ⟨hMid, hCS⟩
      clear hMid hCS hCl ho ho3 hWi fG
      go_wp2
      go_loopw [12, 13] (fun x z wy => ∃ t : Nat, t ≤ W.log.length ∧ z = .int .i64 (t : Int) ∧ wy.ownsRow w3.heap.size 3 1 x (listB m t).length ((listB m t).map fun (n : Nat) => Value.int .i64 (n : Int)) ∧ Below w3.heap.size w3 wy) (fun _ z _ => W.log.length - (intOf z).toNat)
      case atStart => exact ⟨0, Nat.zero_le _, rfl, by simpa [listB] using World.ownsRow_nil w3 w3.heap.size 3 1, Below.refl _ _⟩
      case round =>
        obtain ⟨t, htl, rfl, hr, hBt⟩ := hrel
        by_cases ht : t < W.log.length
        · obtain ⟨y, hy⟩ := get_some m t (by omega)
          have cy := cell_later hBt (cellM t y hy)
          have t0 : (0 : Int) ≤ (t : Int) := by omega
          have tl : (t : Int) < (W.log.length : Int) := by omega
          have hlb := listB_len m t
          cases y with
          | false =>
            have HL1 : Hid (listB m (t + 1) = listB m t) := listB_no (by rw [hy]; rfl)
            clear hy cellM
            go_wp2
            go_roundw
            case rel => exact ⟨t + 1, by omega, rfl, by rw [HL1.out]; exact hr, hBt⟩
            case measure => (simp [intOf] <;> omega)
          | true =>
            have HL1 : Hid (listB m (t + 1) = listB m t ++ [t]) := listB_yes (by rw [hy]; rfl)
            clear hy cellM
            go_wp2_with (at_builtin; go_loud (refine wpList_appendLit _ rfl _ _ 46 rfl w3.heap.size 3 (.int .i64 0) 1 8 Try.underlying46 infoInt rfl (by decide) _ _ _ rfl hr _ _ rfl rfl rfl ?c2 ?c3 ?c4 ?c5 ?_))
            case c2 => rfl
            case c3 => omega
            case c4 => omega
            case c5 => exact hBt.size
            intro v' w5 ho5 hg5 hf5 hn5'
            have hB5 := below_grown (hBt.alloc hBt.size _) (by have := hBt.size; simp; omega) hg5 (fun k hk => (World.ownsRow.lt hr k hk).1)
            clear hg5 hf5 hn5'
            go_wp2
            go_roundw
            case rel =>
              refine ⟨t + 1, by omega, rfl, ?_, hB5⟩
              rw [HL1.out]
              simpa using ho5
            case measure => (simp [intOf] <;> omega)
        · have hte : t = W.log.length := by omega
          have tl : ¬ (t : Int) < (W.log.length : Int) := by omega
          subst hte
          clear cellM
          go_wp2
          go_ret2
          refine ⟨hB3.trans (hBt.mono hB3.size), .inr ⟨HIN.out, m, HM.out.1, HM.out.2, _, rfl, ownsRow_mono hr hB3.size⟩⟩

/-- There is one least closed set. -/
theorem mid_unique {log : List Ev} {m0 a b : List Bool} (ha : Mid log m0 a) (ca : ClosedS log a) (hb : Mid log m0 b) (cb : ClosedS log b) : a = b := by
  have h1 := ha.least b cb hb.sub
  have h2 := hb.least a ca ha.sub
  have hl : a.length = b.length := ha.len.trans hb.len.symm
  apply List.ext_getElem?
  intro i
  by_cases hi : i < a.length
  · obtain ⟨x, hx⟩ := get_some a i hi
    obtain ⟨y, hy⟩ := get_some b i (by omega)
    cases x with
    | true => rw [hx, h1 i hx]
    | false =>
      cases y with
      | false => rw [hx, hy]
      | true => have := h2 i hy; rw [hx] at this; cases this
  · rw [List.getElem?_eq_none (by omega), List.getElem?_eq_none (by omega)]
end Go.Proofs.Ytdfndcbakcmgiaa
