/-
  The walk of the law WireWords.
-/
import Derived.Test.YtaedbgdjjnkloaaWL
namespace Go.Proofs.Ytaedbgdjjnkloaa
open Go.RowKit

theorem reads_eq {w : World} {a : Option Addr} {l c : Nat} {xs ys : List Int} (h : Reads w a l c xs) (e : xs = ys) : Reads w a l c ys := by subst e; exact h

theorem putChunkRr (a : Option Addr) (len cap : Nat) (ys : List Int) (w : World) (hr : Reads w a len cap ys) (hm : 10 + len ≤ 140737488355328) :
    Calls Try.prog 35 #[.slice a len cap] w fun e w' => ∃ b c, e = .returned (.slice b (pc ys).length c) ∧ Reads w' b (pc ys).length c (pc ys) ∧ Below w.heap.size w w' := by
  have hlen := hr.length
  refine (putChunkR a len cap ys w hr hm).mono ?_
  rintro e w' ⟨v, rfl, ho, hb⟩
  obtain ⟨b, c, rfl, hr2⟩ := own_reads ho (by
    intro x hx
    rcases List.mem_append.1 hx with h | h
    · exact pv_bd (by omega) (by omega) x h
    · exact bd_mem hr.bd x h)
  exact ⟨b, c, rfl, hr2, hb⟩

set_option maxRecDepth 100000 in
set_option maxHeartbeats 4000000 in
theorem wordsW (n : Int) (a1 : Option Addr) (len cap : Nat) (zs : List Int) (p : Int) (w : World) (hn : 0 ≤ n ∧ n ≤ 18446744073709551615) (hrow : IsRow .u8 w a1 len cap zs) (hreach : len ≤ 140737488351232) :
    Calls Try.prog 5 #[.int .u64 n, .slice a1 len cap, .int .i64 p] w fun e w' => e = .returned (.bool true) ∧ Below w.heap.size w w' := by
  have hr := isRow_reads hrow
  clear hrow
  generalize zs.take len = xs at hr
  have hlm : len ≤ 9223372036854775807 := Nat.le_trans hr.le hr.max
  obtain ⟨hn0, hn1⟩ := hn
  have HU : Hid (pw 4 (IntKind.u32.wrap n) = pw 4 n) := by show _ = _; rw [IntKind.wrap_u32, pw_cut]
  have hu0 : 0 ≤ IntKind.u32.wrap n := by rw [IntKind.wrap_u32]; omega
  have hu1 : IntKind.u32.wrap n < 4294967296 := by rw [IntKind.wrap_u32]; omega
  by_cases hin : 0 ≤ p ∧ p ≤ len
  · obtain ⟨q, rfl⟩ := Int.eq_ofNat_of_zero_le hin.1
    have hq : q ≤ len := by omega
    have hq1 : decide ((q : Int) < 0) = false := by simp
    have hq2 : decide ((len : Int) < q) = false := by simp; omega
    have hg4 := gw_bd (bd_mem hr.bd) q
    clear hin
    go_enter Try.func5, Try.ntmps5
    go_wp2_with fail
    refine (getFix32W _ _ _ q xs _ hr hq).mono ?_
    rintro e w' ⟨rfl, rfl⟩
    generalize hg : gw xs q 4 = g4 at hg4
    have HG4 := hid hg
    clear hg
    obtain ⟨hg40, hg41⟩ := hg4
    go_wp2_with fail
    refine (getFix64W _ _ _ q xs _ hr hq).mono ?_
    rintro e w' ⟨rfl, rfl⟩
    generalize hg : gw xs q 8 = g8
    have HG8 := hid hg
    clear hg
    go_wp2_with fail
    refine (getChunkWr _ _ _ q xs _ hr hq (by omega)).mono ?_
    rintro e w1 ⟨bc, cc, rfl, hrc, hb1⟩
    generalize hg : gc xs q = gg at hrc
    have HGC := hid hg
    clear hg
    go_wp2_with fail
    refine (awakeW _).mono ?_
    rintro e w2 ⟨rfl, hb2⟩
    have hrc := reads_kept hrc hb2
    have hb := below_trans hb1 hb2
    clear hb1 hb2
    go_wp2_with fail
    refine (putFix32W _ _ hu0 hu1).mono ?_
    rintro e w3 ⟨b3, c3, rfl, hr3, hb3⟩
    have hr3 := reads_eq hr3 HU.out
    have hrc := reads_kept hrc hb3
    have hb := below_trans hb hb3
    clear hb3
    go_wp2_with fail
    refine (putWordRr n 4 _ (by omega)).mono ?_
    rintro e w4 ⟨b4, c4, rfl, hr4, hb4⟩
    have hr3 := reads_kept hr3 hb4
    have hrc := reads_kept hrc hb4
    have hb := below_trans hb hb4
    clear hb4
    go_wp2_with fail
    refine (sameYes _ _ _ _ _ _ _ _ hr3 hr4).mono ?_
    rintro e w5 ⟨rfl, rfl⟩
    clear hr3 hr4
    go_wp2_with fail
    refine (putFix64W n _ hn0 (by omega)).mono ?_
    rintro e w3 ⟨b3, c3, rfl, hr3, hb3⟩
    have hrc := reads_kept hrc hb3
    have hb := below_trans hb hb3
    clear hb3
    go_wp2_with fail
    refine (putWordRr n 8 _ (by omega)).mono ?_
    rintro e w4 ⟨b4, c4, rfl, hr4, hb4⟩
    have hr3 := reads_kept hr3 hb4
    have hrc := reads_kept hrc hb4
    have hb := below_trans hb hb4
    clear hb4
    go_wp2_with fail
    refine (sameYes _ _ _ _ _ _ _ _ hr3 hr4).mono ?_
    rintro e w5 ⟨rfl, rfl⟩
    clear hr3 hr4
    go_wp2_with fail
    refine (putChunkW _ _ _ xs _ (reads_kept hr hb) (by omega)).mono ?_
    rintro e w3 ⟨b3, c3, rfl, hr3, hb3⟩
    have hrc := reads_kept hrc hb3
    have hb := below_trans hb hb3
    clear hb3
    go_wp2_with fail
    refine (putChunkRr _ _ _ xs _ (reads_kept hr hb) (by omega)).mono ?_
    rintro e w4 ⟨b4, c4, rfl, hr4, hb4⟩
    have hr3 := reads_kept hr3 hb4
    have hrc := reads_kept hrc hb4
    have hb := below_trans hb hb4
    clear hb4
    go_wp2_with fail
    refine (sameYes _ _ _ _ _ _ _ _ hr3 hr4).mono ?_
    rintro e w5 ⟨rfl, rfl⟩
    clear hr3 hr4
    go_wp2_with fail
    refine (wordR _ _ _ q 4 xs _ (reads_kept hr hb) hq (by omega) (by omega)).mono ?_
    rintro e w4 ⟨rfl, rfl⟩
    rw [HG4.out]
    go_wp2_with fail
    refine (wordR _ _ _ q 8 xs _ (reads_kept hr hb) hq (by omega) (by omega)).mono ?_
    rintro e w4 ⟨rfl, rfl⟩
    rw [HG8.out]
    go_wp2_with fail
    refine (getChunkRr _ _ _ q xs _ (reads_kept hr hb) hq (by omega)).mono ?_
    rintro e w4 ⟨b4, c4, rfl, hr4, hb4⟩
    rw [HGC.out] at hr4 ⊢
    have hrc := reads_kept hrc hb4
    have hb := below_trans hb hb4
    clear hb4
    go_wp2_with fail
    refine (sameYes _ _ _ _ _ _ _ _ hrc hr4).mono ?_
    rintro e w5 ⟨rfl, rfl⟩
    go_wp2
    go_ret
    exact ⟨by simp, hb⟩
  · have hout : p < 0 ∨ (len : Int) < p := by omega
    by_cases hp0 : p < 0
    · have hq1 : decide (p < 0) = true := by simpa using hp0
      have HO := hid hout
      clear hout hin
      go_enter Try.func5, Try.ntmps5
      go_wp2_with fail
      refine (getFix32Out _ _ _ p _ hlm HO.out).mono ?_
      rintro e w' ⟨rfl, rfl⟩
      go_wp2_with fail
      refine (getFix64Out _ _ _ p _ hlm HO.out).mono ?_
      rintro e w' ⟨rfl, rfl⟩
      go_wp2_with fail
      refine (getChunkOut _ _ _ p _ hlm HO.out).mono ?_
      rintro e w' ⟨rfl, rfl⟩
      have hrc := reads_nil w
      have hb1 := Below.refl w.heap.size w
      go_wp2_with fail
      refine (awakeW _).mono ?_
      rintro e w2 ⟨rfl, hb2⟩
      have hrc := reads_kept hrc hb2
      have hb := below_trans hb1 hb2
      clear hb1 hb2
      go_wp2_with fail
      refine (putFix32W _ _ hu0 hu1).mono ?_
      rintro e w3 ⟨b3, c3, rfl, hr3, hb3⟩
      have hr3 := reads_eq hr3 HU.out
      have hrc := reads_kept hrc hb3
      have hb := below_trans hb hb3
      clear hb3
      go_wp2_with fail
      refine (putWordRr n 4 _ (by omega)).mono ?_
      rintro e w4 ⟨b4, c4, rfl, hr4, hb4⟩
      have hr3 := reads_kept hr3 hb4
      have hrc := reads_kept hrc hb4
      have hb := below_trans hb hb4
      clear hb4
      go_wp2_with fail
      refine (sameYes _ _ _ _ _ _ _ _ hr3 hr4).mono ?_
      rintro e w5 ⟨rfl, rfl⟩
      clear hr3 hr4
      go_wp2_with fail
      refine (putFix64W n _ hn0 (by omega)).mono ?_
      rintro e w3 ⟨b3, c3, rfl, hr3, hb3⟩
      have hrc := reads_kept hrc hb3
      have hb := below_trans hb hb3
      clear hb3
      go_wp2_with fail
      refine (putWordRr n 8 _ (by omega)).mono ?_
      rintro e w4 ⟨b4, c4, rfl, hr4, hb4⟩
      have hr3 := reads_kept hr3 hb4
      have hrc := reads_kept hrc hb4
      have hb := below_trans hb hb4
      clear hb4
      go_wp2_with fail
      refine (sameYes _ _ _ _ _ _ _ _ hr3 hr4).mono ?_
      rintro e w5 ⟨rfl, rfl⟩
      clear hr3 hr4
      go_wp2_with fail
      refine (putChunkW _ _ _ xs _ (reads_kept hr hb) (by omega)).mono ?_
      rintro e w3 ⟨b3, c3, rfl, hr3, hb3⟩
      have hrc := reads_kept hrc hb3
      have hb := below_trans hb hb3
      clear hb3
      go_wp2_with fail
      refine (putChunkRr _ _ _ xs _ (reads_kept hr hb) (by omega)).mono ?_
      rintro e w4 ⟨b4, c4, rfl, hr4, hb4⟩
      have hr3 := reads_kept hr3 hb4
      have hrc := reads_kept hrc hb4
      have hb := below_trans hb hb4
      clear hb4
      go_wp2_with fail
      refine (sameYes _ _ _ _ _ _ _ _ hr3 hr4).mono ?_
      rintro e w5 ⟨rfl, rfl⟩
      clear hr3 hr4
      go_wp2
      go_ret
      exact ⟨rfl, hb⟩
    · have hq1 : decide (p < 0) = false := by simpa using hp0
      have hq2 : decide ((len : Int) < p) = true := by simp; omega
      have HO := hid hout
      clear hout hin
      go_enter Try.func5, Try.ntmps5
      go_wp2_with fail
      refine (getFix32Out _ _ _ p _ hlm HO.out).mono ?_
      rintro e w' ⟨rfl, rfl⟩
      go_wp2_with fail
      refine (getFix64Out _ _ _ p _ hlm HO.out).mono ?_
      rintro e w' ⟨rfl, rfl⟩
      go_wp2_with fail
      refine (getChunkOut _ _ _ p _ hlm HO.out).mono ?_
      rintro e w' ⟨rfl, rfl⟩
      have hrc := reads_nil w
      have hb1 := Below.refl w.heap.size w
      go_wp2_with fail
      refine (awakeW _).mono ?_
      rintro e w2 ⟨rfl, hb2⟩
      have hrc := reads_kept hrc hb2
      have hb := below_trans hb1 hb2
      clear hb1 hb2
      go_wp2_with fail
      refine (putFix32W _ _ hu0 hu1).mono ?_
      rintro e w3 ⟨b3, c3, rfl, hr3, hb3⟩
      have hr3 := reads_eq hr3 HU.out
      have hrc := reads_kept hrc hb3
      have hb := below_trans hb hb3
      clear hb3
      go_wp2_with fail
      refine (putWordRr n 4 _ (by omega)).mono ?_
      rintro e w4 ⟨b4, c4, rfl, hr4, hb4⟩
      have hr3 := reads_kept hr3 hb4
      have hrc := reads_kept hrc hb4
      have hb := below_trans hb hb4
      clear hb4
      go_wp2_with fail
      refine (sameYes _ _ _ _ _ _ _ _ hr3 hr4).mono ?_
      rintro e w5 ⟨rfl, rfl⟩
      clear hr3 hr4
      go_wp2_with fail
      refine (putFix64W n _ hn0 (by omega)).mono ?_
      rintro e w3 ⟨b3, c3, rfl, hr3, hb3⟩
      have hrc := reads_kept hrc hb3
      have hb := below_trans hb hb3
      clear hb3
      go_wp2_with fail
      refine (putWordRr n 8 _ (by omega)).mono ?_
      rintro e w4 ⟨b4, c4, rfl, hr4, hb4⟩
      have hr3 := reads_kept hr3 hb4
      have hrc := reads_kept hrc hb4
      have hb := below_trans hb hb4
      clear hb4
      go_wp2_with fail
      refine (sameYes _ _ _ _ _ _ _ _ hr3 hr4).mono ?_
      rintro e w5 ⟨rfl, rfl⟩
      clear hr3 hr4
      go_wp2_with fail
      refine (putChunkW _ _ _ xs _ (reads_kept hr hb) (by omega)).mono ?_
      rintro e w3 ⟨b3, c3, rfl, hr3, hb3⟩
      have hrc := reads_kept hrc hb3
      have hb := below_trans hb hb3
      clear hb3
      go_wp2_with fail
      refine (putChunkRr _ _ _ xs _ (reads_kept hr hb) (by omega)).mono ?_
      rintro e w4 ⟨b4, c4, rfl, hr4, hb4⟩
      have hr3 := reads_kept hr3 hb4
      have hrc := reads_kept hrc hb4
      have hb := below_trans hb hb4
      clear hb4
      go_wp2_with fail
      refine (sameYes _ _ _ _ _ _ _ _ hr3 hr4).mono ?_
      rintro e w5 ⟨rfl, rfl⟩
      clear hr3 hr4
      go_wp2
      go_ret
      exact ⟨rfl, hb⟩
end Go.Proofs.Ytaedbgdjjnkloaa
