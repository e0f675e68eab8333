/-
  The document's places, quoted texts and numbers.
-/
import Derived.Test.YtlkdcdmdkncjoaaDoorYP
import Derived.Test.YtlkdcdmdkncjoaaDoorYI
import Derived.Test.YtlkdcdmdkncjoaaDoorJL
namespace Go.Proofs.YtlkdcdmdkncjoaaDoor
open Go.RowKit
set_option maxRecDepth 1000000
set_option linter.unusedSimpArgs false
set_option maxHeartbeats 16000000
set_option linter.unusedVariables false

section
variable (xs : List Int) (i : Nat) (w : World)
theorem toR (k : Nat) (hb : ∀ x ∈ xs, 0 ≤ x ∧ x ≤ 255) (hik : i ≤ k) (hk : k ≤ xs.length) (hl : xs.length ≤ 65536) :
    Calls Tryd.prog 15 #[.string (strOfNums xs), .agg #[.int .i64 i, .int .i64 (lnA xs i), .int .i64 (clA xs i)], .int .i64 k] w fun e w' => e = .returned (.agg #[.int .i64 k, .int .i64 (lnA xs k), .int .i64 (clA xs k)]) ∧ Below w.heap.size w w' := by
  have HIX := hid (fun j (hj : j < xs.length) => bt_index hb j hj .i64)
  clear hb
  go_enter Tryd.func15, Tryd.ntmps15
  go_wp2
  go_loopw [7] (fun vi wr => ∃ m : Nat, vi = .int .i64 m ∧ i ≤ m ∧ m ≤ k ∧ Hid (Blk wr w.heap.size 49 #[.int .i64 i, .int .i64 (lnA xs m), .int .i64 (clA xs m)]) ∧ Hid (Blk wr (w.heap.size + 1) 49 #[.int .i64 0, .int .i64 0, .int .i64 0]) ∧ Hid (Below w.heap.size w wr)) (fun vi _ => k - (intOf vi).toNat)
  case atStart =>
    refine ⟨i, rfl, Nat.le_refl _, hik, hid ((Blk.new w _ _).kept (below_alloc _)), hid ?_, hid (below_trans (below_alloc _) (below_alloc _))⟩
    have := Blk.new (w.alloc (.cells #[.int .i64 i, .int .i64 (lnA xs i), .int .i64 (clA xs i)] 49)) 49 #[.int .i64 0, .int .i64 0, .int .i64 0]
    rw [World.size_alloc] at this
    exact this
  case round =>
    obtain ⟨m, rfl, him, hmk, HB, HB2, HW⟩ := hrel
    have c0 : wr.cell? ⟨w.heap.size, 0, none⟩ = some (.int .i64 i) := HB.out.cell 0 _ rfl
    have c1 : wr.cell? ⟨w.heap.size, 1, none⟩ = some (.int .i64 (lnA xs m)) := HB.out.cell 1 _ rfl
    have c2 : wr.cell? ⟨w.heap.size, 2, none⟩ = some (.int .i64 (clA xs m)) := HB.out.cell 2 _ rfl
    have f0 := HB.out.frozen 0
    have f1 := HB.out.frozen 1
    have f2 := HB.out.frozen 2
    have hL := lnA_bd xs m
    have hC := clA_bd xs m
    by_cases hlt : m < k
    · have hix := HIX.out m (by omega)
      have hmi : (m : Int) < (k : Int) := by omega
      by_cases h10 : bt xs m = 10
      · have HL := hid (lnA_nl h10)
        have HC := hid (clA_nl h10)
        rw [h10] at hix
        clear h10
        generalize lnA xs m = L at *
        generalize clA xs m = C at *
        go_wp2
        exact ⟨⟨m + 1, by go_num, by omega, by omega, hid (Blk.is ((HB.out.set 1 _).set 2 _) (by rw [HL.out, HC.out]; simp)), hid ((HB2.out.other (by simp) _).other (by simp) _), hid ((HW.out.setCell (by simp) _).setCell (by simp) _)⟩, by simp [intOf]; omega⟩
      · have HL := hid (lnA_on h10)
        have HC := hid (clA_on h10)
        have e10 : (bt xs m == 10) = false := by simpa using h10
        clear h10
        generalize lnA xs m = L at *
        generalize clA xs m = C at *
        generalize bt xs m = c at *
        go_wp2
        exact ⟨⟨m + 1, by go_num, by omega, by omega, hid (Blk.is (HB.out.set 2 _) (by rw [HL.out, HC.out]; simp)), hid (HB2.out.other (by simp) _), hid (HW.out.setCell (by simp) _)⟩, by simp [intOf]; omega⟩
    · obtain rfl : m = k := by omega
      have d0 : wr.cell? ⟨w.heap.size + 1, 0, none⟩ = some (.int .i64 0) := HB2.out.cell 0 _ rfl
      have d1 : wr.cell? ⟨w.heap.size + 1, 1, none⟩ = some (.int .i64 0) := HB2.out.cell 1 _ rfl
      have d2 : wr.cell? ⟨w.heap.size + 1, 2, none⟩ = some (.int .i64 0) := HB2.out.cell 2 _ rfl
      have g0 := HB2.out.frozen 0
      have g1 := HB2.out.frozen 1
      have g2 := HB2.out.frozen 2
      go_wp2
      exact bodyPost_ret (v := .agg #[.int .i64 m, .int .i64 (lnA xs m), .int .i64 (clA xs m)]) (by simp [results, Tryd.results15, go_sem, d0, d1, d2, c1, c2]) rfl ⟨rfl, (((HW.out.setCell (by simp) _).setCell (by simp) _).setCell (by simp) _).setCell (by simp) _⟩
/-- Where a quoted text ends. -/
def endQ : Option Nat → Ending
  | some k => .returned (.tuple #[.int .i64 k, .bool true])
  | none => .returned (.tuple #[.int .i64 0, .bool false])
theorem quotedR (hb : ∀ x ∈ xs, 0 ≤ x ∧ x ≤ 255) (hi : i < xs.length) (hl : xs.length ≤ 65536) :
    Calls Tryd.prog 19 #[.string (strOfNums xs), .int .i64 i] w fun e w' => e = endQ (qe xs (i + 1)) ∧ w = w' := by
  have HIX := hid (fun j (hj : j < xs.length) => bt_index hb j hj .i64)
  have hs : (strOfNums xs).size = xs.length := strOfNums_size xs
  clear hb
  obtain ⟨n, hn⟩ : ∃ n, xs.length = n := ⟨_, rfl⟩
  have HN := hid hn
  rw [hn] at hs hl hi HIX
  clear hn
  go_enter Tryd.func19, Tryd.ntmps19
  go_wp2
  go_loop [6] (fun vi => ∃ k : Nat, vi = .int .i64 k ∧ k ≤ n + 1 ∧ Hid (qe xs k = qe xs (i + 1))) (fun vi => n + 2 - (intOf vi).toNat)
  case atStart => exact ⟨i + 1, by go_num, by omega, hid rfl⟩
  case round =>
    obtain ⟨k, rfl, hk, HQ⟩ := hrel
    by_cases hlt : k < n
    · have hix := HIX.out k hlt
      have hkn : k < xs.length := by rw [HN.out]; exact hlt
      by_cases h92 : bt xs k = 92
      · have HQ2 : Hid (qe xs (k + 2) = qe xs (i + 1)) := hid (by rw [← HQ.out, qe_back hkn h92])
        rw [h92] at hix
        clear h92
        go_wp2
        exact ⟨⟨k + 2, by go_num, by omega, HQ2⟩, by simp [intOf]; omega⟩
      · by_cases h34 : bt xs k = 34
        · have HQ2 : Hid (qe xs (i + 1) = some (k + 1)) := hid (by rw [← HQ.out, qe_mark hkn h34])
          rw [h34] at hix
          clear h92 h34
          go_wp2
          go_ret2
          rw [HQ2.out]
          exact ⟨rfl, rfl⟩
        · have HQ2 : Hid (qe xs (k + 1) = qe xs (i + 1)) := hid (by rw [← HQ.out, qe_step hkn h92 h34])
          have e1 : (bt xs k == 92) = false := by simpa using h92
          have e2 : (bt xs k == 34) = false := by simpa using h34
          clear h92 h34
          generalize bt xs k = c at *
          go_wp2
          exact ⟨⟨k + 1, by go_num, by omega, HQ2⟩, by simp [intOf]; omega⟩
    · have HQ2 : Hid (qe xs (i + 1) = none) := hid (by rw [← HQ.out, qe_end (by rw [HN.out]; omega)])
      go_wp2
      go_ret2
      rw [HQ2.out]
      exact ⟨rfl, rfl⟩
end
end Go.Proofs.YtlkdcdmdkncjoaaDoor
