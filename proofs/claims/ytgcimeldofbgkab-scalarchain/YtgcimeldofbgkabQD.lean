/-
  The walk over the document's counting of characters.
-/
import Derived.Test.YtgcimeldofbgkabQC
namespace Go.Proofs.Ytgcimeldofbgkab
open Go.RowKit
set_option maxRecDepth 1000000

theorem chr_at {xs : List Int} {pos : Nat} (h : pos < xs.length) : chr (xs.drop pos) = if szF (xs[pos]?.getD 0) = 0 then 0 else if okV (ctF (xs.drop (pos + 1)) (szF (xs[pos]?.getD 0) - 1) (v0F (xs[pos]?.getD 0))) (lowF (xs[pos]?.getD 0)) then szF (xs[pos]?.getD 0) else 0 := by
  rw [drop_at h, chr_cons]
theorem ct_bad {xs : List Int} {j n : Nat} {V : Int} (h : j < xs.length) (hd : xs[j]?.getD 0 < 128 ∨ 192 ≤ xs[j]?.getD 0) : ctF (xs.drop j) (n + 1) V = -1 := by
  rw [drop_at h]; simp [ctF, hd]
theorem ct_step {xs : List Int} {j n : Nat} {V : Int} (h : j < xs.length) (hd : ¬ (xs[j]?.getD 0 < 128 ∨ 192 ≤ xs[j]?.getD 0)) : ctF (xs.drop j) (n + 1) V = ctF (xs.drop (j + 1)) n (V * 64 + xs[j]?.getD 0 - 128) := by
  rw [drop_at h]; simp [ctF, hd]
theorem ct_short {xs : List Int} {j n : Nat} {V : Int} (h : xs.length < j + n) (hj : j ≤ xs.length) (hV : 0 ≤ V) : ¬ 0 ≤ ctF (xs.drop j) n V := fun hh => by
  have := ctF_len n _ V hV hh
  simp at this
  omega

section
variable {xs : List Int} {pos b sz : Nat} {acc c : Int}
/-- What a character that was read, or one that could not be read, says of the whole count. -/
theorem rn_ok (hp : pos < xs.length) (hc : xs[pos]?.getD 0 = c) (hs : szF c = sz) (h0 : sz ≠ 0) {V : Int} (hV : ctF (xs.drop (pos + 1)) (sz - 1) (v0F c) = V) (hok : okV V (lowF c) = true) (HR : rnF (b + 1) (xs.drop pos) acc = rn xs) :
    rnF b (xs.drop (pos + sz)) (acc + 1) = rn xs := by
  have e : chr (xs.drop pos) = sz := by rw [chr_at hp, hc, hs, if_neg h0, hV, hok]; rfl
  rw [← HR, rn_step hp (by rw [e]; exact h0), e]
theorem rn_no (hp : pos < xs.length) (hc : xs[pos]?.getD 0 = c) (h : szF c = 0 ∨ okV (ctF (xs.drop (pos + 1)) (szF c - 1) (v0F c)) (lowF c) = false) (HR : rnF (b + 1) (xs.drop pos) acc = rn xs) : (-1 : Int) = rn xs := by
  have e : chr (xs.drop pos) = 0 := by
    rw [chr_at hp, hc]
    by_cases h0 : szF c = 0
    · rw [if_pos h0]
    · rw [if_neg h0, h.resolve_left h0]; rfl
  rw [← HR, rn_bad hp e]
end
theorem okV_neg {v low : Int} (h0 : 0 ≤ low) (h : ¬ 0 ≤ v) : okV v low = false := by
  rw [Bool.eq_false_iff]; intro hh; have := (okV_iff _ _).1 hh; omega

end Go.Proofs.Ytgcimeldofbgkab
