import Derived.Test.YtfacehklndapgaaE4
namespace Go.Proofs.Ytfacehklndapgaa
open Go.RowKit

/-- A step within its bounds, in a program of n threads. -/
structure SOk (n : Nat) (x : Stp) : Prop where
  w0 : 0 ≤ x.which
  wl : x.which < 6
  wt : x.kind = 6 ∨ x.kind = 7 → x.which < n
  c0 : 0 ≤ x.count
  c9 : x.count ≤ 9

def lookStp (L : List (List Stp)) (s : MS) (t : Nat) (x : Stp) : Int × Int :=
  if x.kind = 1 then lookTake (s.ow[x.which.toNat]?.getD none) t
  else if x.kind = 2 then fltIf (decide (s.ow[x.which.toNat]?.getD none ≠ some t))
  else if x.kind = 6 then fltIf (s.st[x.which.toNat]?.getD false)
  else if x.kind = 7 then lookJoin L s x.which.toNat
  else (1, -1)
def lookM (L : List (List Stp)) (s : MS) (t : Nat) : Int × Int :=
  if s.st[t]? = some true then
    match (L[t]?.getD [])[s.pl[t]?.getD 0]? with
    | none => (4, -1)
    | some x => lookStp L s t x
  else (0, -1)

abbrev boxes (w : World) (V : Value) (s : MS) : World := (w.alloc (.cells #[V] 69)).alloc (.cells s.cells 92)

set_option maxHeartbeats 1000000 in
theorem Look_out (V : Value) (L : List (List Stp)) (s : MS) (w : World) (B : Nat) (hp : ProgIn w B V L) (i : Int) (hi : i < 0 ∨ (L.length : Int) ≤ i) :
    Calls Try.prog 93 #[.agg #[V], .agg s.cells, .int .i64 i] w fun e w' => e = .returned (pairV (0, -1)) ∧ Below w.heap.size w w' := by
  have hp2 := (hp.alloc (.cells #[V] 69)).alloc (.cells s.cells 92)
  have hT := Threads_any V L _ B hp2
  clear hp2 hp
  generalize L.length = tl at *
  by_cases h0 : i < 0
  · clear hi
    go_enter Try.func93, Try.ntmps93
    go_wp2
    go_ret2
    exact ⟨rfl, (two_new (Below.refl _ _)).2.2.1⟩
  · have h1 : (tl : Int) ≤ i := by omega
    clear hi
    go_enter Try.func93, Try.ntmps93
    go_wp2_with (first | (go_at_call 78; refine hT.mono ?_; rintro e w1 ⟨rfl, hb⟩))
    go_ret2
    exact ⟨rfl, (two_new hb).2.2.1⟩

set_option maxHeartbeats 1000000 in
theorem Look_unborn (V : Value) (L : List (List Stp)) (s : MS) (ok : s.Ok) (w : World) (B : Nat) (hp : ProgIn w B V L) (hL : L.length ≤ 5) (t : Nat) (ht : t < L.length) (i : Int) (hi : i = t) (hs : s.st[t]? = some false) :
    Calls Try.prog 93 #[.agg #[V], .agg s.cells, .int .i64 i] w fun e w' => e = .returned (pairV (0, -1)) ∧ Below w.heap.size w w' := by
  subst hi
  have hp2 := (hp.alloc (.cells #[V] 69)).alloc (.cells s.cells 92)
  have hT := Threads_any V L _ B hp2
  have hst : StIn (boxes w V s) (w.heap.size + 1) s := ⟨heap_alloc2_new _ _ _, ok⟩
  have c1 := hst.st hs
  have t0 : (0 : Int) ≤ (t : Int) := by omega
  have t5 : (t : Int) < 5 := by omega
  have t5' : t < 5 := by omega
  clear hp2 hp hs hst hL
  generalize L.length = tl at *
  go_enter Try.func93, Try.ntmps93
  go_wp2_with (first | (go_at_call 78; refine hT.mono ?_; rintro e w1 ⟨rfl, hb⟩; have d1 := cell_later hb c1))
  go_ret2
  exact ⟨rfl, (two_new hb).2.2.1⟩
end Go.Proofs.Ytfacehklndapgaa
