/-
  P4.3 without the document's own words: the law, at any text and any marks.
-/
import Derived.Test.YtlkdcdmdkncjoaaDoorVF
namespace Go.Proofs.YtlkdcdmdkncjoaaDoor
open Go.RowKit
set_option maxRecDepth 1000000
set_option maxHeartbeats 4000000
set_option linter.unusedVariables false

theorem again_out {xs : List Int} {sep : Nat → List Int} (hs : ∀ k, isSep (sep k)) (hc : (lx xs).code = 0) (hl : xs.length ≤ 65536) :
    ∃ ms cd, outE (jn xs sep 0 (lx xs).ws) = (ms, cd, 0, 0) ∧ ((65536 < (strOfNums (jn xs sep 0 (lx xs).ws)).size ∧ cd = 1) ∨ ((strOfNums (jn xs sep 0 (lx xs).ws)).size ≤ 65536 ∧ cd = 0 ∧ LkM ms ((lx xs).ws.map (mw xs)))) ∧ (strOfNums (jn xs sep 0 (lx xs).ws)).size ≤ 4295753739 := by
  have hch := lx_ch hc
  have hbnd : (jn xs sep 0 (lx xs).ws).length ≤ 4295753739 := by
    refine Nat.le_trans (jn_len hs _ _) ?_
    have h1 := ch_len _ _ hch
    exact Nat.le_trans (Nat.mul_le_mul (show (lx xs).ws.length ≤ 65537 by omega) (show xs.length + 11 ≤ 65547 by omega)) (by decide)
  rw [strOfNums_size]
  obtain ⟨l', e, hk⟩ := lx_again hs (lx xs).ws 0 0 [] (jn xs sep 0 (lx xs).ws) [] hch rfl
  by_cases hbig : 65536 < (jn xs sep 0 (lx xs).ws).length
  · refine ⟨[], 1, ?_, .inl ⟨hbig, rfl⟩, hbnd⟩
    unfold outE
    rw [if_pos hbig]
  · have e' : lx (jn xs sep 0 (lx xs).ws) = ⟨l', 0, 0⟩ := e
    refine ⟨l'.map (mw (jn xs sep 0 (lx xs).ws)), 0, ?_, .inr ⟨by omega, rfl, lkM_of _ _ hk⟩, hbnd⟩
    unfold outE
    rw [if_neg hbig, e', if_pos rfl]
theorem lexAgainW (s : ByteArray) (ma : Option Addr) (ml mc : Nat) (mk : List Int) (w : World) (hm : s.size ≤ maxLen) (hmk : Reads w ma ml mc mk) (hs : Sentinel w 2) :
    Calls Tryd.prog 5 #[.string s, .slice ma ml mc] w fun e w' => e = .returned (.bool true) ∧ Below w.heap.size w w' := by
  have hl : (numsS s).length ≤ 9223372036854775807 := by
    rw [numsS_len]
    unfold maxLen at hm
    have e : s.data.toList.length = s.size := rfl
    rw [e]
    exact Nat.le_trans hm (by decide)
  rw [← numsS_str s]
  have hb := numsS_bd s
  generalize numsS s = xs at hl hb ⊢
  by_cases hbig : 65536 < xs.length
  · exact againBad _ _ _ _ 1 0 0 w (by decide) hs (fun W g => by have := splitW xs W hb hl g; unfold outE at this; rw [if_pos hbig] at this; exact this)
  · by_cases hc : (lx xs).code = 0
    · have hch := lx_ch hc
      obtain ⟨p, hp⟩ := ch_last _ _ hch
      have hq : (lx xs).ws.length = p.length + 1 := by rw [hp]; simp
      have hcl := ch_len _ _ hch
      have hsp : ∀ k : Nat, isSep ((fun _ => [32] : Nat → List Int) k) := fun _ => .inl rfl
      obtain ⟨ms1, cd1, o1, g1, z1⟩ := again_out hsp hc (by omega)
      obtain ⟨ms2, cd2, o2, g2, z2⟩ := again_out (sepM_is mk) hc (by omega)
      refine againGood xs mk ma ml mc (lx xs).ws p.length w (by omega) hq (by omega) hmk hs (fun W g => ?_) _ _ rfl rfl ms1 ms2 cd1 cd2 (fun W g => ?_) (fun W g => ?_) g1 g2 z1 z2
      · have := splitW xs W hb hl g
        unfold outE at this
        rw [if_neg hbig, if_pos hc] at this
        refine this.mono ?_
        rintro e w' ⟨a, c, rfl, hr, hbb⟩
        have e1 : ((lx xs).ws.map (mw xs)).length = p.length + 1 := by rw [List.length_map, hq]
        dsimp only at hr
        rw [e1] at hr
        exact ⟨a, c, by dsimp only; rw [e1], hr, hbb⟩
      · have := splitW (jn xs (fun _ => [32]) 0 (lx xs).ws) W (jn_bd hb hsp _ _) (by rw [strOfNums_size] at z1; omega) g
        rw [o1] at this
        exact this
      · have := splitW (jn xs (sepM mk) 0 (lx xs).ws) W (jn_bd hb (sepM_is mk) _ _) (by rw [strOfNums_size] at z2; omega) g
        rw [o2] at this
        exact this
    · exact againBad _ _ _ _ (lx xs).code _ _ w hc hs (fun W g => by have := splitW xs W hb hl g; unfold outE at this; rw [if_neg hbig, if_neg hc] at this; exact this)
end Go.Proofs.YtlkdcdmdkncjoaaDoor
