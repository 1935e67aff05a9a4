import Derived.Test.YtdfndcbakcmgiabDoorE1
namespace Go.Proofs.YtdfndcbakcmgiabDoor
open Go.RowKit

/-- A step within its bounds, in a program of n threads. -/
structure SOk (n : Nat) (x : Stp) : Prop where
  w0 : 0 ≤ x.which
  wl : x.which < 6
  wt : x.kind = 6 ∨ x.kind = 7 → x.which < n
  c0 : 0 ≤ x.count
  c9 : x.count ≤ 9

def lookStp (L : List (List Stp)) (s : MS) (t : Nat) (x : Stp) : Int × Int :=
  if x.kind = 1 then lookTake (s.ow[x.which.toNat]?.getD none) t
  else if x.kind = 2 then fltIf (decide (s.ow[x.which.toNat]?.getD none ≠ some t))
  else if x.kind = 6 then fltIf (s.st[x.which.toNat]?.getD false)
  else if x.kind = 7 then lookJoin L s x.which.toNat
  else (1, -1)
def lookM (L : List (List Stp)) (s : MS) (t : Nat) : Int × Int :=
  if s.st[t]? = some true then
    match (L[t]?.getD [])[s.pl[t]?.getD 0]? with
    | none => (4, -1)
    | some x => lookStp L s t x
  else (0, -1)

abbrev boxes (w : World) (V : Value) (s : MS) : World := (w.alloc (.cells #[V] 60)).alloc (.cells s.cells 79)

set_option maxHeartbeats 1000000 in
theorem Look_out (V : Value) (L : List (List Stp)) (s : MS) (w : World) (B : Nat) (hp : ProgIn w B V L) (i : Int) (hi : i < 0 ∨ (L.length : Int) ≤ i) :
    Calls Tryd.prog 57 #[.agg #[V], .agg s.cells, .int .i64 i] w fun e w' => e = .returned (pairV (0, -1)) ∧ Below w.heap.size w w' := by
  have hp2 := (hp.alloc (.cells #[V] 60)).alloc (.cells s.cells 79)
  have hT := Threads_any V L _ B hp2
  clear hp2 hp
  generalize L.length = tl at *
  by_cases h0 : i < 0
  · clear hi
    go_enter Tryd.func57, Tryd.ntmps57
    go_wp2
    go_ret2
    exact ⟨rfl, (two_new (Below.refl _ _)).2.2.1⟩
  · have h1 : (tl : Int) ≤ i := by omega
    clear hi
    go_enter Tryd.func57, Tryd.ntmps57
    go_wp2_with (first | (go_at_call 52; refine hT.mono ?_; rintro e w1 ⟨rfl, hb⟩))
    go_ret2
    exact ⟨rfl, (two_new hb).2.2.1⟩

set_option maxHeartbeats 1000000 in
theorem Look_unborn (V : Value) (L : List (List Stp)) (s : MS) (ok : s.Ok) (w : World) (B : Nat) (hp : ProgIn w B V L) (hL : L.length ≤ 5) (t : Nat) (ht : t < L.length) (i : Int) (hi : i = t) (hs : s.st[t]? = some false) :
    Calls Tryd.prog 57 #[.agg #[V], .agg s.cells, .int .i64 i] w fun e w' => e = .returned (pairV (0, -1)) ∧ Below w.heap.size w w' := by
  subst hi
  have hp2 := (hp.alloc (.cells #[V] 60)).alloc (.cells s.cells 79)
  have hT := Threads_any V L _ B hp2
  have hst : StIn (boxes w V s) (w.heap.size + 1) s := ⟨heap_alloc2_new _ _ _, ok⟩
  have c1 := hst.st hs
  have t0 : (0 : Int) ≤ (t : Int) := by omega
  have t5 : (t : Int) < 5 := by omega
  have t5' : t < 5 := by omega
  clear hp2 hp hs hst hL
  generalize L.length = tl at *
  go_enter Tryd.func57, Tryd.ntmps57
  go_wp2_with (first | (go_at_call 52; refine hT.mono ?_; rintro e w1 ⟨rfl, hb⟩; have d1 := cell_later hb c1))
  go_ret2
  exact ⟨rfl, (two_new hb).2.2.1⟩
end Go.Proofs.YtdfndcbakcmgiabDoor
namespace Go.Proofs.YtdfndcbakcmgiabDoor
open Go.RowKit
attribute [local go_sem ↓] loadS_fold storeS_fold

/-- Three cells that were just stored, in a new block. -/
theorem new3_get (w : World) (a b c : Value) (ty : TypeId) : (w.alloc (.cells #[a, b, c] ty)).cell? ⟨w.heap.size, 0, none⟩ = some a ∧ (w.alloc (.cells #[a, b, c] ty)).cell? ⟨w.heap.size, 1, none⟩ = some b ∧ (w.alloc (.cells #[a, b, c] ty)).cell? ⟨w.heap.size, 2, none⟩ = some c :=
  ⟨cellB (heap_alloc_new w _) rfl, cellB (heap_alloc_new w _) rfl, cellB (heap_alloc_new w _) rfl⟩
theorem set3_get {w : World} {g : Nat} {ty : TypeId} {x y z a b c : Value} (h : w.heap[g]? = some (.cells #[x, y, z] ty (0, 0))) :
    (((w.setCell ⟨g, 0, none⟩ a).setCell ⟨g, 1, none⟩ b).setCell ⟨g, 2, none⟩ c).cell? ⟨g, 0, none⟩ = some a ∧ (((w.setCell ⟨g, 0, none⟩ a).setCell ⟨g, 1, none⟩ b).setCell ⟨g, 2, none⟩ c).cell? ⟨g, 1, none⟩ = some b ∧ (((w.setCell ⟨g, 0, none⟩ a).setCell ⟨g, 1, none⟩ b).setCell ⟨g, 2, none⟩ c).cell? ⟨g, 2, none⟩ = some c := by
  have h3 := heap_setCell_same _ g 2 _ ty c (heap_setCell_same _ g 1 _ ty b (heap_setCell_same w g 0 _ ty a h))
  exact ⟨cellB h3 rfl, cellB h3 rfl, cellB h3 rfl⟩

theorem ownI_ne (o : Option Nat) (t : Nat) : (ownI o != (t : Int)) = decide (o ≠ some t) := by
  cases o with
  | none =>
    have : (-1 : Int) ≠ (t : Int) := by omega
    simp [ownI, bne_iff_ne, this]
  | some u =>
    by_cases h : u = t
    · simp [ownI, h]
    · have : (u : Int) ≠ (t : Int) := by omega
      simp [ownI, h, bne_iff_ne, this]

set_option maxHeartbeats 4000000 in
theorem Look_at (V : Value) (L : List (List Stp)) (s : MS) (ok : s.Ok) (w : World) (B : Nat) (hp : ProgIn w B V L) (hL : L.length ≤ 5) (t n : Nat) (ht : t < L.length) (i : Int) (hi : i = t) (hs : s.st[t]? = some true) (hn : s.pl[t]? = some n) (x : Stp) (b : Bool)
    (hx : SOk L.length x) (hS : ∀ w', Below (boxes w V s).heap.size (boxes w V s) w' → Calls Tryd.prog 73 #[.agg #[V], .int .i64 t, .int .i64 n] w' fun e w'' => e = .returned (.tuple #[stpV x, .bool b]) ∧ Below w'.heap.size w' w'') :
    Calls Tryd.prog 57 #[.agg #[V], .agg s.cells, .int .i64 i] w fun e w' => e = .returned (pairV (if b = true then lookStp L s t x else (4, -1))) ∧ Below w.heap.size w w' := by
  subst hi
  have hp2 := (hp.alloc (.cells #[V] 60)).alloc (.cells s.cells 79)
  have hT := Threads_any V L _ B hp2
  have hst : StIn (boxes w V s) (w.heap.size + 1) s := ⟨heap_alloc2_new _ _ _, ok⟩
  have c1 := hst.st hs
  have c2 := hst.pl hn
  have hc0 : (boxes w V s).cell? ⟨w.heap.size, 0, none⟩ = some V := cellB (heap_alloc2_old _ _ _) rfl
  have t0 : (0 : Int) ≤ (t : Int) := by omega
  have t5 : (t : Int) < 5 := by omega
  have t5' : t < 5 := by omega
  have HL : Hid (L.length ≤ 5) := hL
  have HP : Hid (ProgIn (boxes w V s) B V L) := hp2
  have HT : Hid (t < L.length) := ht
  have ht' : ¬ ((L.length : Int) ≤ (t : Int)) := by omega
  clear hp2 hp hs hL hn ht
  generalize hpost : (if b = true then lookStp L s t x else (4, -1)) = post
  have HPO : Hid ((if b = true then lookStp L s t x else (4, -1)) = post) := hpost
  clear hpost
  go_enter Tryd.func57, Tryd.ntmps57
  go_wp2_with (first | (go_at_call 52; refine hT.mono ?_; rintro e w1 ⟨rfl, hb⟩; have d1 := cell_later hb c1; have d2 := cell_later hb c2; have d0 := cell_later hb hc0))
  go_cut [8, 9] (fun p o wc => ∃ q, p = .pointer (some ⟨q, 0, none⟩) ∧ o = .bool b ∧ Below (boxes w V s).heap.size (boxes w V s) wc ∧ wc.cell? ⟨q, 0, none⟩ = some (.int .i64 x.kind) ∧ wc.cell? ⟨q, 1, none⟩ = some (.int .i64 x.which) ∧ wc.cell? ⟨q, 2, none⟩ = some (.int .i64 x.count))
  case first =>
    go_region_held3 (fun w' => w'.cell? ⟨w.heap.size + 1, t, none⟩ = some (.bool true) ∧ w'.cell? ⟨w.heap.size + 1, 5 + t, none⟩ = some (.int .i64 n) ∧ w'.cell? ⟨w.heap.size, 0, none⟩ = some V) (first | exact ⟨d1, d2, d0⟩ | exact ⟨cell_later hb1 d1, cell_later hb1 d2, cell_later hb1 d0⟩ | exact ⟨cell_later (hb1.alloc hb1.size _) d1, cell_later (hb1.alloc hb1.size _) d2, cell_later (hb1.alloc hb1.size _) d0⟩ | exact ⟨cell_later ((Below.refl _ _).alloc (Nat.le_refl _) _) d1, cell_later ((Below.refl _ _).alloc (Nat.le_refl _) _) d2, cell_later ((Below.refl _ _).alloc (Nat.le_refl _) _) d0⟩ | exact ⟨cell_later (((hb1.setCell (p := ⟨w1.heap.size, 0, none⟩) (Nat.le_refl _) _).setCell (p := ⟨w1.heap.size, 1, none⟩) (Nat.le_refl _) _).setCell (p := ⟨w1.heap.size, 2, none⟩) (Nat.le_refl _) _) d1, cell_later (((hb1.setCell (p := ⟨w1.heap.size, 0, none⟩) (Nat.le_refl _) _).setCell (p := ⟨w1.heap.size, 1, none⟩) (Nat.le_refl _) _).setCell (p := ⟨w1.heap.size, 2, none⟩) (Nat.le_refl _) _) d2, cell_later (((hb1.setCell (p := ⟨w1.heap.size, 0, none⟩) (Nat.le_refl _) _).setCell (p := ⟨w1.heap.size, 1, none⟩) (Nat.le_refl _) _).setCell (p := ⟨w1.heap.size, 2, none⟩) (Nat.le_refl _) _) d0⟩ | go_keep)
        (first | (go_at_call 73; refine (hS _ (by first | exact hb | exact hb.drew | exact (hb.alloc hb.size _).drew | exact hb.alloc hb.size _)).mono ?_; rintro e w2 ⟨he, hbb⟩; rw [stpV] at he; subst he; have hb1 : Below w1.heap.size w1 w2 := (by first | exact hbb | exact below_of_drew hbb | exact ((Below.refl _ _).alloc (Nat.le_refl _) _).trans (hbb.mono (by simp)) | exact ((Below.refl _ _).alloc (Nat.le_refl _) _).drew.trans (hbb.mono (by simp))); (first | (have hbc : Below (w1.alloc (.cells #[.int .i64 0, .int .i64 0, .int .i64 0] 86)).heap.size (w1.alloc (.cells #[.int .i64 0, .int .i64 0, .int .i64 0] 86)) w2 := (by first | exact hbb | exact below_of_drew hbb); have hblk := (hbc.block w1.heap.size (by simp)).trans (heap_alloc_new w1 _); obtain ⟨hc, hz, hlt, _⟩ := below_new hbc; have q0 : w2.cell? ⟨w1.heap.size, 0, none⟩ = some (.int .i64 0) := hc 0 _ rfl; have q1 : w2.cell? ⟨w1.heap.size, 1, none⟩ = some (.int .i64 0) := hc 1 _ rfl; have q2 : w2.cell? ⟨w1.heap.size, 2, none⟩ = some (.int .i64 0) := hc 2 _ rfl; clear hc) | skip)))
    all_goals
      go_wp2_with fail
      go_meet
      case rel =>
        first
          | exact ⟨_, rfl, rfl, hb.trans ((hb1.alloc hb1.size _).mono hb.size), new3_get w2 _ _ _ _⟩
          | exact ⟨_, rfl, rfl, hb.trans ((((hb1.setCell (p := ⟨w1.heap.size, 0, none⟩) (Nat.le_refl _) _).setCell (p := ⟨w1.heap.size, 1, none⟩) (Nat.le_refl _) _).setCell (p := ⟨w1.heap.size, 2, none⟩) (Nat.le_refl _) _).mono hb.size), set3_get hblk⟩
  case rest =>
    obtain ⟨q, rfl, rfl, hBc, e0, e1, e2⟩ := hcut
    have hsc := hst.below hBc
    have hBw := (two_new hBc).2.2.1
    have d0' := cell_later hBc hc0
    clear d0 d1 d2 hb hS
    have hpo := HPO.out
    clear HPO e2
    cases b with
    | false =>
      rw [if_neg (by simp)] at hpo
      subst hpo
      go_wp2
      go_ret2
      exact ⟨rfl, hBw⟩
    | true =>
      rw [if_pos rfl] at hpo
      obtain ⟨j, hj⟩ : ∃ j : Nat, x.which = j := ⟨x.which.toNat, by have := hx.w0; omega⟩
      have hj6 : j < 6 := by have := hx.wl; omega
      have j0 : (0 : Int) ≤ (j : Int) := by omega
      have j6 : (j : Int) < 6 := by omega
      have hjt : x.which.toNat = j := by omega
      have hwt := hx.wt
      rw [hj] at e1 hwt
      unfold lookStp at hpo
      rw [hjt] at hpo
      obtain ⟨o, ho⟩ : ∃ o, s.ow[j]? = some o := ⟨s.ow[j]'(by rw [ok.n3]; omega), by simp⟩
      have k10 := hsc.ow ho
      rw [ho, Option.getD_some] at hpo
      generalize hk : x.kind = k at *
      clear hj hjt hx hk x ho hst c1 c2 hc0
      by_cases h1 : k = 1
      · subst h1
        rw [if_pos rfl] at hpo
        subst hpo
        go_wp2_with (first | (go_at_call 74; refine (lookAtTake_any o t _).mono ?_; rintro e w3 ⟨he, hw⟩; rw [pairV] at he; subst he; have hw2 := hw.symm; clear hw; subst hw2))
        go_ret2
        exact ⟨rfl, hBw⟩
      by_cases h2 : k = 2
      · subst h2
        rw [if_neg (by decide), if_pos rfl] at hpo
        have hne := ownI_ne o t
        generalize decide (o ≠ some t) = b at *
        subst hpo
        cases b with
        | true =>
          go_wp2_with (first | (go_at_call 75; refine (faultIf_any _ _).mono ?_; rintro e w3 ⟨he, hw⟩; rw [if_pos rfl] at he; subst he; have hw2 := hw.symm; clear hw; subst hw2))
          go_ret2
          exact ⟨rfl, hBw⟩
        | false =>
          go_wp2_with (first | (go_at_call 75; refine (faultIf_any _ _).mono ?_; rintro e w3 ⟨he, hw⟩; rw [if_neg (by decide)] at he; subst he; have hw2 := hw.symm; clear hw; subst hw2))
          go_ret2
          exact ⟨rfl, hBw⟩
      by_cases h6 : k = 6
      · subst h6
        rw [if_neg (by decide), if_neg (by decide), if_pos rfl] at hpo
        have hjl : j < 5 := by have := hwt (.inl rfl); have := HL.out; omega
        have j5 : (j : Int) < 5 := by omega
        obtain ⟨b, hb⟩ : ∃ b, s.st[j]? = some b := ⟨s.st[j]'(by rw [ok.n1]; omega), by simp⟩
        have kst := hsc.st hb
        rw [hb, Option.getD_some] at hpo
        subst hpo
        clear hb hwt
        cases b with
        | true =>
          go_wp2_with (first | (go_at_call 75; refine (faultIf_any _ _).mono ?_; rintro e w3 ⟨he, hw⟩; rw [if_pos rfl] at he; subst he; have hw2 := hw.symm; clear hw; subst hw2))
          go_ret2
          exact ⟨rfl, hBw⟩
        | false =>
          go_wp2_with (first | (go_at_call 75; refine (faultIf_any _ _).mono ?_; rintro e w3 ⟨he, hw⟩; rw [if_neg (by decide)] at he; subst he; have hw2 := hw.symm; clear hw; subst hw2))
          go_ret2
          exact ⟨rfl, hBw⟩
      by_cases h7 : k = 7
      · subst h7
        rw [if_neg (by decide), if_neg (by decide), if_neg (by decide), if_pos rfl] at hpo
        have hjl : j < L.length := by have := hwt (.inr rfl); omega
        have hJ := lookAtJoin_any V L s ok wc B (HP.out.below hBc) HL.out j hjl _ rfl
        rw [hpo] at hJ
        have hld := hsc.loadS
        clear hpo hwt hjl
        go_wp2_with (first | (go_at_call 76; refine hJ.mono ?_; rintro e w3 ⟨he, hb3⟩; rw [pairV] at he; subst he))
        go_ret2
        exact ⟨rfl, hBw.trans (hb3.mono hBw.size)⟩
      · rw [if_neg h1, if_neg h2, if_neg h6, if_neg h7] at hpo
        subst hpo
        have b1 : (k == 1) = false := beq_false_of_ne h1
        have b2 : (k == 2) = false := beq_false_of_ne h2
        have b6 : (k == 6) = false := beq_false_of_ne h6
        have b7 : (k == 7) = false := beq_false_of_ne h7
        go_wp2
        go_ret2
        exact ⟨rfl, hBw⟩

/-- What Look answers of a thread's number. -/
theorem Look_in (V : Value) (L : List (List Stp)) (s : MS) (ok : s.Ok) (w : World) (B : Nat) (hp : ProgIn w B V L) (hL : L.length ≤ 5) (hok : ∀ l ∈ L, ∀ x ∈ l, SOk L.length x) (t : Nat) (ht : t < L.length) (i : Int) (hi : i = t) :
    Calls Tryd.prog 57 #[.agg #[V], .agg s.cells, .int .i64 i] w fun e w' => e = .returned (pairV (lookM L s t)) ∧ Below w.heap.size w w' := by
  have hp2 : ProgIn (boxes w V s) B V L := (hp.alloc (.cells #[V] 60)).alloc (.cells s.cells 79)
  obtain ⟨b, hb⟩ : ∃ b, s.st[t]? = some b := ⟨s.st[t]'(by rw [ok.n1]; omega), by simp⟩
  obtain ⟨n, hn⟩ : ∃ n, s.pl[t]? = some n := ⟨s.pl[t]'(by rw [ok.n2]; omega), by simp⟩
  have hl : L[t]? = some L[t] := by simp [ht]
  cases b with
  | false =>
    have h := Look_unborn V L s ok w B hp hL t ht i hi hb
    have e : lookM L s t = (0, -1) := by simp [lookM, hb]
    rw [e]; exact h
  | true =>
    cases hx : L[t][n]? with
    | none =>
      have hle : L[t].length ≤ n := by simpa using hx
      have h := Look_at V L s ok w B hp hL t n ht i hi hb hn ⟨0, 0, 0⟩ false ⟨by decide, by decide, fun h => by simp at h, by decide, by decide⟩ (fun w' hw => Step_out V L w' B (hp2.below hw) t n ht hle _ _ rfl rfl)
      have e : lookM L s t = (4, -1) := by simp only [lookM, hb, hn, hl, Option.getD_some, hx, if_true]
      rw [e]; simpa using h
    | some x =>
      have h := Look_at V L s ok w B hp hL t n ht i hi hb hn x true (hok _ (List.getElem_mem ht) _ (List.mem_of_getElem? hx)) (fun w' hw => Step_in V L w' B (hp2.below hw) t n ht x hx _ _ rfl rfl)
      have e : lookM L s t = lookStp L s t x := by simp only [lookM, hb, hn, hl, Option.getD_some, hx, if_true]
      rw [e]; simpa using h
end Go.Proofs.YtdfndcbakcmgiabDoor
namespace Go.Proofs.YtdfndcbakcmgiabDoor
open Go.RowKit
attribute [local go_sem ↓] loadS_fold storeS_fold

/-- What Next answers. -/
def nextV (x : Stp) (n : Nat) : Value := .tuple #[stpV x, .int .i64 n, .bool true]

set_option maxHeartbeats 2000000 in
theorem Next_in (V : Value) (L : List (List Stp)) (s : MS) (ok : s.Ok) (w : World) (B : Nat) (hp : ProgIn w B V L) (hL : L.length ≤ 5) (t n : Nat) (ht : t < L.length) (i : Int) (hi : i = t) (hn : s.pl[t]? = some n) (x : Stp) (hx : L[t][n]? = some x) :
    Calls Tryd.prog 58 #[.agg #[V], .agg s.cells, .int .i64 i] w fun e w' => e = .returned (nextV x n) ∧ Below w.heap.size w w' := by
  subst hi
  have hp2 : ProgIn (boxes w V s) B V L := (hp.alloc (.cells #[V] 60)).alloc (.cells s.cells 79)
  have hp3 := hp2.alloc (.cells #[.int .i64 0, .int .i64 0, .int .i64 0] 86)
  have hT := Threads_any V L _ B hp3
  have hS := fun w' hw => Step_in V L w' B (ProgIn.below hp3 (w' := w') hw) t n ht x hx _ _ rfl rfl
  have hst : StIn (boxes w V s) (w.heap.size + 1) s := ⟨heap_alloc2_new _ _ _, ok⟩
  have c2 := cell_later ((Below.refl _ _).alloc (Nat.le_refl _) (.cells #[.int .i64 0, .int .i64 0, .int .i64 0] 86)) (hst.pl hn)
  have hc0 : (boxes w V s).cell? ⟨w.heap.size, 0, none⟩ = some V := cellB (heap_alloc2_old _ _ _) rfl
  have hc1 := cell_later ((Below.refl _ _).alloc (Nat.le_refl _) (.cells #[.int .i64 0, .int .i64 0, .int .i64 0] 86)) hc0
  have hB0 : Below w.heap.size w ((boxes w V s).alloc (.cells #[.int .i64 0, .int .i64 0, .int .i64 0] 86)) := (two_new ((Below.refl _ _).alloc (Nat.le_refl _) _)).2.2.1
  have t0 : (0 : Int) ≤ (t : Int) := by omega
  have t5 : (t : Int) < 5 := by omega
  have t5' : t < 5 := by omega
  have ht' : ¬ ((L.length : Int) ≤ (t : Int)) := by omega
  have hs3 : (boxes w V s).heap.size = w.heap.size + 2 := by simp
  clear hp2 hp3 hp hL hst hn hx hc0 ht
  go_enter Tryd.func58, Tryd.ntmps58
  go_wp2_with (first
    | (go_at_call 52; refine hT.mono ?_; rintro e w1 ⟨rfl, hb⟩; obtain ⟨hc, hz, hlt, _⟩ := below_new hb; rw [hs3] at hc hz hlt; have q0 : w1.cell? ⟨w.heap.size + 2, 0, none⟩ = some (.int .i64 0) := hc 0 _ rfl; have q1 : w1.cell? ⟨w.heap.size + 2, 1, none⟩ = some (.int .i64 0) := hc 1 _ rfl; have q2 : w1.cell? ⟨w.heap.size + 2, 2, none⟩ = some (.int .i64 0) := hc 2 _ rfl; clear hc; have z0 := hz 0; have d2 := cell_later hb c2; have d0 := cell_later hb hc1)
    | (go_at_call 73; refine (hS _ hb).mono ?_; rintro e w2 ⟨he, hb1⟩; rw [stpV] at he; subst he; have q0' := cell_later hb1 q0; have q1' := cell_later hb1 q1; have q2' := cell_later hb1 q2; have z0' := frozen_later hb1 q0 (hz 0); have z1' := frozen_later hb1 q1 (hz 1); have z2' := frozen_later hb1 q2 (hz 2); have hB2 := hb.trans (hb1.mono hb.size); have hl2 := Nat.lt_of_lt_of_le hlt hb1.size))
  have hBw : Below w.heap.size w w2 := hB0.trans (hB2.mono hB0.size)
  exact bodyPost_ret (v := nextV x n) (by simp [results, Tryd.results58, go_sem, nextV, stpV, q0', q1', q2', hl2]) rfl ⟨rfl, (((hBw.setCell (p := ⟨w.heap.size + 2, 0, none⟩) (by simp) _).setCell (p := ⟨w.heap.size + 2, 1, none⟩) (by simp) _).setCell (p := ⟨w.heap.size + 2, 2, none⟩) (by simp) _).alloc (by simpa using hBw.size) _⟩
end Go.Proofs.YtdfndcbakcmgiabDoor
