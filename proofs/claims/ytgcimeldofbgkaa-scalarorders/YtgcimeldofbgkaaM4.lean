/-
  Plain mathematics for entries; nothing of the program.
-/
import Derived.Test.YtgcimeldofbgkaaM3
namespace Go.Proofs.Ytgcimeldofbgkaa
open Go.RowKit
set_option maxRecDepth 1000000

/-- Do an entry's parts fit its kind? Its fault. Its bytes. -/
def fit (kind n : Int) (len : Nat) : Bool := if kind = 2 then decide (n = 0) else decide (len = 0) && (decide (kind ≠ 5) || decide (n ≤ 4294967295))
def ef (num kind n : Int) (len : Nat) : Int := if tf num kind ≠ 0 then tf num kind else if fit kind n len = true then 0 else 7
def body (kind n : Int) (ys : List Int) : List Int := if kind = 1 then pw 8 n else if kind = 5 then pw 4 n else if kind = 2 then pc ys else pv n
def pe (num kind n : Int) (ys : List Int) : List Int := pv (num * 8 + kind) ++ body kind n ys

theorem okK_cases {k : Int} (h : okK k = true) : k = 0 ∨ k = 1 ∨ k = 2 ∨ k = 5 := by simpa [okK] using h
theorem ef_tf {num kind n : Int} {len : Nat} (h : tf num kind ≠ 0) : ef num kind n len = tf num kind := by unfold ef; rw [if_pos h]
theorem ef_fit {num kind n : Int} {len : Nat} (h : tf num kind = 0) : ef num kind n len = if fit kind n len = true then 0 else 7 := by unfold ef; rw [if_neg (by simp [h])]
theorem ef_ok {num kind n : Int} {len : Nat} (h : ef num kind n len = 0) : tf num kind = 0 ∧ fit kind n len = true := by
  unfold ef at h
  split at h
  · rename_i h1; exact absurd h h1
  · rename_i h1
    split at h
    · exact ⟨by simpa using h1, by assumption⟩
    · cases h
theorem body_bd {kind n : Int} {ys : List Int} (h0 : 0 ≤ n) (h1 : n < 18446744073709551616) (hy : ∀ x ∈ ys, 0 ≤ x ∧ x ≤ 255) (hl : ys.length < 18446744073709551616) : ∀ x ∈ body kind n ys, 0 ≤ x ∧ x ≤ 255 := by
  unfold body
  split
  · exact pw_bd 8 n
  · split
    · exact pw_bd 4 n
    · split
      · intro x hx
        rcases List.mem_append.1 hx with h | h
        · exact pv_bd (by omega) (by omega) x h
        · exact hy x h
      · exact pv_bd h0 h1
theorem pe_bd {num kind n : Int} {ys : List Int} (ht : tf num kind = 0) (h0 : 0 ≤ n) (h1 : n < 18446744073709551616) (hy : ∀ x ∈ ys, 0 ≤ x ∧ x ≤ 255) (hl : ys.length < 18446744073709551616) : ∀ x ∈ pe num kind n ys, 0 ≤ x ∧ x ≤ 255 := by
  obtain ⟨a, b, c⟩ := tf_ok ht
  have := okK_bd c
  intro x hx
  rcases List.mem_append.1 hx with h | h
  · exact pv_bd (by omega) (by omega) x h
  · exact body_bd h0 h1 hy hl x h
theorem body_len {kind n : Int} {ys : List Int} : (body kind n ys).length ≤ 10 + ys.length := by
  unfold body
  split
  · rw [pw_length]; omega
  · split
    · rw [pw_length]; omega
    · split
      · have := (pv_len (ys.length : Int)).2; simp [pc]; omega
      · have := (pv_len n).2; omega
theorem pe_len {num kind n : Int} {ys : List Int} : (pe num kind n ys).length ≤ 20 + ys.length := by
  have h1 := (pv_len (num * 8 + kind)).2
  have h2 := body_len (kind := kind) (n := n) (ys := ys)
  simp [pe]; omega
end Go.Proofs.Ytgcimeldofbgkaa
