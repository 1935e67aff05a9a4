import Derived.Test.YtdfndcbakcmgiaaDoorE10
namespace Go.Proofs.YtdfndcbakcmgiaaDoor
open Go.RowKit
attribute [local go_sem ↓] loadS_fold storeS_fold zeroS_fold

/-- How a run has ended in which nobody may move. -/
def endL (L : List (List Stp)) (s : MS) (t : Nat) : Int :=
  if t < L.length then (if (lookM L s t).1 ≠ 0 ∧ (lookM L s t).1 ≠ 4 then 2 else endL L s (t + 1)) else 1
termination_by L.length - t

end Go.Proofs.YtdfndcbakcmgiaaDoor
namespace Go.Proofs.YtdfndcbakcmgiaaDoor
open Go.RowKit
attribute [local go_sem ↓] loadS_fold storeS_fold zeroS_fold

theorem infoU8 : (Tryd.prog.info? 5).map (fun i => (i.zero, i.size, i.bytes)) = some (some (.int .u8 0), 1, 1) := by kernel_rfl

theorem below_grown {n : Nat} {w wr w2 : World} {row : Option Nat} (hb : Below n w wr) (hn : n ≤ wr.heap.size) (hg : wr.grownBy w2 row) (hr : ∀ k, row = some k → n ≤ k) : Below n w w2 :=
  ⟨hg.os.trans hb.os, hg.tape.trans hb.tape, hg.output.trans hb.output, Nat.le_trans hb.size hg.size, fun k hk => (hg.block k (by omega) (fun e => by have := hr k e.symm; omega)).trans (hb.block k hk)⟩

def mayB (L : List (List Stp)) (s : MS) (t : Nat) : Bool := decide ((lookM L s t).1 = 1 ∨ (lookM L s t).1 = 5)
/-- The threads that may move, up to t. -/
def moversL (L : List (List Stp)) (s : MS) (t : Nat) : List Nat := (List.range t).filter (mayB L s)
theorem moversL_yes {L : List (List Stp)} {s : MS} {t : Nat} (h : mayB L s t = true) : moversL L s (t + 1) = moversL L s t ++ [t] := by simp [moversL, List.range_succ, h]
theorem moversL_no {L : List (List Stp)} {s : MS} {t : Nat} (h : mayB L s t = false) : moversL L s (t + 1) = moversL L s t := by simp [moversL, List.range_succ, h]
theorem moversL_len (L : List (List Stp)) (s : MS) (t : Nat) : (moversL L s t).length ≤ t := by
  have := List.length_filter_le (mayB L s) (List.range t)
  simpa [moversL] using this

theorem ownsRow_mono {w : World} {B B' : Nat} {e : TypeId} {size n : Nat} {v : Value} {xs : List Value} (h : w.ownsRow B e size v n xs) (hB : B' ≤ B) : w.ownsRow B' e size v n xs := by
  obtain ⟨h1, h2⟩ := h
  refine ⟨h1, ?_⟩
  rcases h2 with h2 | ⟨g, cap, cur, a, b, c⟩
  · exact .inl h2
  · exact .inr ⟨g, cap, cur, a, Nat.le_trans hB b, c⟩
theorem row_form {w : World} {B : Nat} {e : TypeId} {size n : Nat} {v : Value} {xs : List Value} (h : w.ownsRow B e size v n xs) (hn : v.ownBlock ≠ none) : ∃ g cap, v = .slice (some ⟨g, 0, none⟩) n cap := by
  obtain ⟨g, cap, hv, _⟩ := RowD.at.form (r := ⟨e, size, v, n, xs⟩) ⟨h, hn⟩
  exact ⟨g, cap, hv⟩
/-- A list of ints that a call owns, in a slice that is not nil. -/
def IntsIn (w : World) (B : Nat) (v : Value) (l : List Nat) : Prop :=
  ∃ g cap, v = .slice (some ⟨g, 0, none⟩) l.length cap ∧ w.ownsRow B 3 1 v l.length (l.map fun (n : Nat) => Value.int .i64 (n : Int))

end Go.Proofs.YtdfndcbakcmgiaaDoor
