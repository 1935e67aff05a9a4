import Derived.Test.YtfacehklndapgaaB4
namespace Go.Proofs.Ytfacehklndapgaa
open Go.RowKit

/-- What Read answers: the threads, the error, its place. -/
def readP (s : ByteArray) : List (List Stp) × Int × Int :=
  if 160 < s.size then ([], 1, 0)
  else match rtLoop s 0 [] [] with
    | .inr p => ([], 2, p)
    | .inl L =>
      if fe L 0 ≠ -1 then ([], 3, fe L 0)
      else if fs s L.length 0 ≠ -1 then ([], 4, fs s L.length 0)
      else (L, 0, 0)

theorem rtLoop_len (s : ByteArray) : ∀ (n k : Nat) (done : List (List Stp)) (cur : List Stp) (L : List (List Stp)), s.size - k = n → rtLoop s k done cur = .inl L → L.length ≤ done.length + 1 + (s.size - k) := by
  intro n
  induction n using Nat.strongRecOn with
  | ind n ih =>
    intro k done cur L hn h
    rw [rtLoop] at h
    split at h
    · split at h
      · have := ih (s.size - (k + 1)) (by omega) (k + 1) _ _ L rfl h
        simp at this; omega
      · split at h
        · rename_i hok
          have hx := readStep_next s k hok
          have := ih (s.size - (readStep s k).2.1) (by omega) _ _ _ L rfl h
          omega
        · cases h
    · simp at h; subst h; simp

theorem readThreads_no (s : ByteArray) (w : World) (hs : s.size ≤ 160) (p : Nat) (h : rtLoop s 0 [] [] = .inr p) :
    Calls Try.prog 65 #[.string s] w fun e w' => e = .returned (.tuple #[.slice none 0 0, .int .i64 p]) ∧ Below w.heap.size w w' := by
  refine (readThreads_any s w hs).mono ?_
  rintro e w1 ⟨hb, ⟨L, V, vs, h1, _⟩ | ⟨p', h1, h2⟩⟩
  · rw [h] at h1; cases h1
  · rw [h] at h1; cases h1; exact ⟨h2, hb⟩
theorem readThreads_yes (s : ByteArray) (w : World) (hs : s.size ≤ 160) (L : List (List Stp)) (h : rtLoop s 0 [] [] = .inl L) :
    Calls Try.prog 65 #[.string s] w fun e w' => ∃ g cap, e = .returned (.tuple #[.slice (some ⟨g, 0, none⟩) L.length cap, .int .i64 (-1)]) ∧ Below w.heap.size w w' ∧ ProgIn w' w.heap.size (.slice (some ⟨g, 0, none⟩) L.length cap) L := by
  refine (readThreads_any s w hs).mono ?_
  rintro e w1 ⟨hb, ⟨L', V, vs, h1, h2, h3, h4⟩ | ⟨p', h1, h2⟩⟩
  · rw [h] at h1; cases h1
    have hp := progIn_of_fam h3 h4
    obtain ⟨g, cap, hV, _⟩ := id hp
    rw [hV] at hp h2
    exact ⟨g, cap, h2, hb, hp⟩
  · rw [h] at h1; cases h1

/-- The one cell of a struct that holds a slice, in a block that was laid ahead of a call. -/
theorem below_one {w w1 : World} {v : Value} {T : TypeId} (hb : Below (w.alloc (.cells #[v] T)).heap.size (w.alloc (.cells #[v] T)) w1) :
    w1.cell? ⟨w.heap.size, 0, none⟩ = some v ∧ (∀ j, w1.frozen? ⟨w.heap.size, j, none⟩ = false) ∧ w.heap.size < w1.heap.size ∧ Below w.heap.size w w1 := by
  obtain ⟨hc, hf, hz, hB⟩ := below_new hb
  exact ⟨hc 0 _ rfl, hf, hz, hB⟩

set_option maxHeartbeats 2000000 in
theorem Read_any (s : ByteArray) (w : World) :
    Calls Try.prog 41 #[.string s] w fun e w' => ∃ a n c, e = .returned (.tuple #[.agg #[.slice a n c], .int .i64 (readP s).2.1, .int .i64 (readP s).2.2]) ∧ Below w.heap.size w w' ∧ ((readP s).2.1 = 0 → ProgIn w' w.heap.size (.slice a n c) (readP s).1) := by
  by_cases h160 : 160 < s.size
  · have hr : readP s = ([], 1, 0) := by rw [readP, if_pos h160]
    rw [hr]; clear hr
    go_enter Try.func41, Try.ntmps41
    go_wp2
    exact bodyPost_ret (v := .tuple #[.agg #[.slice none 0 0], .int .i64 1, .int .i64 0]) (by simp [results, Try.results41, go_sem]) rfl ⟨_, _, _, rfl, (Below.refl _ _).alloc (Nat.le_refl _) _, by simp⟩
  · have hs : s.size ≤ 160 := by omega
    cases hrt : rtLoop s 0 [] [] with
    | inr p =>
      have hr : readP s = ([], 2, (p : Int)) := by rw [readP, if_neg h160, hrt]
      rw [hr]; clear hr
      have hcall := fun w => readThreads_no s w hs p hrt
      have hne : ((p : Int) != -1) = true := by simp
      clear hrt
      go_enter Try.func41, Try.ntmps41
      go_wp2_with (go_at_call 65; refine (hcall _).mono ?_; rintro e w1 ⟨rfl, hb⟩; obtain ⟨c0, hf, hz, hB⟩ := below_one hb; clear hb)
      exact bodyPost_ret (v := .tuple #[.agg #[.slice none 0 0], .int .i64 2, .int .i64 p]) (by simp [results, Try.results41, go_sem, c0]) rfl ⟨_, _, _, rfl, hB.setCell (Nat.le_refl _) _, by simp⟩
    | inl L =>
      have hcall := fun w => readThreads_yes s w hs L hrt
      have hL := rtLoop_len s _ 0 [] [] L rfl hrt
      simp only [List.length_nil] at hL
      by_cases hfe : fe L 0 = -1
      · by_cases hfs : fs s L.length 0 = -1
        · have hr : readP s = (L, 0, 0) := by rw [readP, if_neg h160, hrt]; simp [hfe, hfs]
          rw [hr]; clear hr hrt
          go_enter Try.func41, Try.ntmps41
          go_wp2_with (first
            | (go_at_call 65; refine (hcall _).mono ?_; rintro e w1 ⟨g, cap, rfl, hb, hp⟩; obtain ⟨c0, hf, hz, hB⟩ := below_one hb; clear hb hcall)
            | (go_at_call 66; refine (firstExtra_any _ L _ _ hp (by omega)).mono ?_; rintro e w2 ⟨he, hw⟩; subst hw; rw [hfe] at he; subst he)
            | (go_at_call 67; refine (firstStray_any s _ _ hs).mono ?_; rintro e w3 ⟨he, hw⟩; subst hw; rw [hfs] at he; subst he))
          exact bodyPost_ret (v := .tuple #[.agg #[.slice (some ⟨g, 0, none⟩) L.length cap], .int .i64 0, .int .i64 0]) (by simp [results, Try.results41, go_sem, c0]) rfl ⟨_, _, _, rfl, hB.setCell (Nat.le_refl _) _, fun _ => (hp.setCell (by simp) _).mono (by simp)⟩
        · have hr : readP s = ([], 4, fs s L.length 0) := by rw [readP, if_neg h160, hrt]; simp [hfe, hfs]
          rw [hr]; clear hr hrt
          have hne : (fs s L.length 0 != -1) = true := by simpa using hfs
          go_enter Try.func41, Try.ntmps41
          go_wp2_with (first
            | (go_at_call 65; refine (hcall _).mono ?_; rintro e w1 ⟨g, cap, rfl, hb, hp⟩; obtain ⟨c0, hf, hz, hB⟩ := below_one hb; clear hb hcall)
            | (go_at_call 66; refine (firstExtra_any _ L _ _ hp (by omega)).mono ?_; rintro e w2 ⟨rfl, hw⟩; subst hw)
            | (go_at_call 67; refine (firstStray_any s _ _ hs).mono ?_; rintro e w3 ⟨rfl, hw⟩; subst hw))
          exact bodyPost_ret (v := .tuple #[.agg #[.slice none 0 0], .int .i64 4, .int .i64 (fs s L.length 0)]) (by simp [results, Try.results41, go_sem, c0]) rfl ⟨_, _, _, rfl, hB.setCell (Nat.le_refl _) _, by simp⟩
      · have hr : readP s = ([], 3, fe L 0) := by rw [readP, if_neg h160, hrt]; simp [hfe]
        rw [hr]; clear hr hrt
        have hne : (fe L 0 != -1) = true := by simpa using hfe
        go_enter Try.func41, Try.ntmps41
        go_wp2_with (first
            | (go_at_call 65; refine (hcall _).mono ?_; rintro e w1 ⟨g, cap, rfl, hb, hp⟩; obtain ⟨c0, hf, hz, hB⟩ := below_one hb; clear hb hcall)
            | (go_at_call 66; refine (firstExtra_any _ L _ _ hp (by omega)).mono ?_; rintro e w2 ⟨rfl, hw⟩; subst hw)
            | (go_at_call 67; refine (firstStray_any s _ _ hs).mono ?_; rintro e w3 ⟨rfl, hw⟩; subst hw))
        exact bodyPost_ret (v := .tuple #[.agg #[.slice none 0 0], .int .i64 3, .int .i64 (fe L 0)]) (by simp [results, Try.results41, go_sem, c0]) rfl ⟨_, _, _, rfl, hB.setCell (Nat.le_refl _) _, by simp⟩

set_option maxHeartbeats 1000000 in
theorem Check_any (s : ByteArray) (w : World) :
    Calls Try.prog 13 #[.string s] w fun e w' => e = .returned (.tuple #[.int .i64 (readP s).2.1, .int .i64 (readP s).2.2]) ∧ Below w.heap.size w w' := by
  go_enter Try.func13, Try.ntmps13
  go_wp2_with (go_at_call 41; refine (Read_any s _).mono ?_; rintro e w1 ⟨a, n, c, rfl, hb, _⟩)
  go_ret2
  exact ⟨rfl, hb.alloc hb.size _⟩
end Go.Proofs.Ytfacehklndapgaa
