/-
  The walk of the law QuoteBack.
-/
import Derived.Test.YtiipbamckbeheaaQN
namespace Go.Proofs.Ytiipbamckbeheaa
open Go.RowKit

theorem uqE_qt {xs : List Int} (h : ∀ x ∈ xs, 0 ≤ x ∧ x ≤ 255) (hs : ¬ 65536 < (qt xs).length) : uqE (qt xs) = (xs, 0) := uqE_some hs (uq_qt h)
theorem qt_size (xs : List Int) : (qt xs).length ≤ 4 * xs.length + 2 := by have := (flat_len xs).2; rw [qt_len]; omega

/-- Two rows of bytes appended to a new one. -/
theorem two_cat (w : World) (a b : Option Addr) (la ca lb cb : Nat) (xs ys : List Int) (ha : Reads w a la ca xs) (hb : Reads w b lb cb ys) (hma : la ≤ 1048576) (hmb : lb ≤ 1048576) :
    ∃ v6 ac cc w6 w7, (Builtin.append_ #[22, 22] 22 #[.slice (some ⟨w.heap.size, 0, none⟩) 0 0, .slice a la ca]).run Try.prog (w.alloc (.cells #[] 5)) = .ok v6 w6 ∧
      (Builtin.append_ #[22, 22] 22 #[v6, .slice b lb cb]).run Try.prog w6 = .ok (.slice ac (la + lb) cc) w7 ∧ Reads w7 ac (la + lb) cc (xs ++ ys) ∧ Below w.heap.size w w7 := by
  obtain ⟨v6, w6, r6, o6, b6⟩ := cat w _ 0 [] (w.alloc (.cells #[] 5)) a la ca xs (own_empty w) (below_alloc _) ha (by omega)
  rw [List.nil_append, Nat.zero_add] at o6
  obtain ⟨v7, w7, r7, o7, b7⟩ := cat w v6 la xs w6 b lb cb ys o6 b6 hb (by omega)
  have hbd : ∀ x ∈ xs ++ ys, 0 ≤ x ∧ x ≤ 255 := fun x hx => (List.mem_append.1 hx).elim (bd_mem ha.bd x) (bd_mem hb.bd x)
  obtain ⟨ac, cc, rfl, hrc⟩ := own_reads o7 hbd
  exact ⟨v6, ac, cc, w6, w7, r6, r7, hrc, b7⟩

set_option maxRecDepth 100000 in
set_option maxHeartbeats 4000000 in
theorem quoteBackW (a b : Option Addr) (la ca lb cb : Nat) (xs ys : List Int) (w : World) (ha : Reads w a la ca xs) (hb : Reads w b lb cb ys) (hma : la ≤ 1048576) (hmb : lb ≤ 1048576) :
    Calls Try.prog 6 #[.slice a la ca, .slice b lb cb] w fun e w' => e = .returned (.bool true) ∧ Below w.heap.size w w' := by
  obtain ⟨n, hn⟩ : ∃ n, (qt xs).length = n := ⟨_, rfl⟩
  have hs : (strOfNums (qt xs)).size = n := by rw [strOfNums_size, hn]
  have hxb := bd_mem ha.bd
  have hyb := bd_mem hb.bd
  have hqb := qt_bytes hxb
  have HIx : Hid (∀ j : Nat, j < n → ∀ (k : IntKind) (W : World), (Instr.index 9 (.string (strOfNums (qt xs))) (.int k (j : Int))).run Try.prog W = .ok (.int .u8 ((qt xs)[j]?.getD 0)) W) := hid fun j hj k W => index_str hqb j (by omega) k W
  have HR : Hid (∀ j : Nat, j < n → (32 : Int) ≤ (qt xs)[j]?.getD 0 ∧ (qt xs)[j]?.getD 0 ≤ 126) := hid fun j hj => by
    have hj' : j < (qt xs).length := by omega
    have := qt_bd hxb (qt xs)[j] (List.getElem_mem hj')
    simpa [hj'] using this
  have hnb : n ≤ 4194306 := by have := qt_size xs; rw [ha.length] at this; omega
  have HU : Hid (∀ W : World, Calls Try.prog 7 #[.string (strOfNums (qt xs))] W fun e w' => Unquoted W (uqE (qt xs)) e w') := hid fun W => unquoteW (qt xs) W hqb (by omega)
  have HXa := hid ha
  have HXb := hid hb
  have Hma := hid hma
  have Hmb := hid hmb
  have Hn := hid hn
  have Hxb := hid hxb
  have Hyb := hid hyb
  have hni : (n : Int) ≤ 4194306 := by omega
  clear ha hb hma hmb hn hxb hyb hqb hnb
  go_enter Try.func6, Try.ntmps6
  go_wp2_with (first
    | (go_at_call 8; refine (awakeW _).mono ?_; rintro e w1 ⟨rfl, hb1⟩; have HB1 := hid hb1; clear hb1)
    | (go_at_call 13; refine (quoteW _ _ _ xs _ (reads_kept HXa.out HB1.out) Hma.out).mono ?_; rintro e w2 ⟨rfl, hb2⟩; have HB := hid (below_trans HB1.out hb2); clear hb2))
  go_loop [6] (fun r => ∃ j : Nat, j ≤ n ∧ r = .int .i64 j) (fun r => n - (intOf r).toNat)
  case atStart => exact ⟨0, by omega, rfl⟩
  case round =>
    obtain ⟨j, hj, rfl⟩ := hrel
    by_cases hlt : j < n
    · have hij := HIx.out j hlt
      have hr := HR.out j hlt
      obtain ⟨d, hd⟩ : ∃ d, (qt xs)[j]?.getD 0 = d := ⟨_, rfl⟩
      rw [hd] at hij hr
      clear hd
      have hr0 := hr.1
      have hr1 := hr.2
      have hji : (j : Int) < (n : Int) := by omega
      clear hr
      go_wp2
      exact ⟨⟨j + 1, by omega, by go_num⟩, by simp [intOf]; omega⟩
    · have hji : ¬ (j : Int) < (n : Int) := by omega
      clear HIx HR
      by_cases hbig : 65536 < n
      · have HU1 : Hid (∀ W : World, Calls Try.prog 7 #[.string (strOfNums (qt xs))] W fun e w' => ∃ a c, e = .returned (.tuple #[.slice a 0 c, .int .i64 1]) ∧ Below W.heap.size W w') := hid fun W => (HU.out W).mono fun e w' h => by
          rw [uqE_big (by rw [Hn.out]; exact hbig)] at h
          obtain ⟨a, c, h1, _, h3⟩ := h
          exact ⟨a, c, h1, h3⟩
        have hbi : (65536 : Int) < (n : Int) := by omega
        clear HU hbig
        go_wp2_with (go_at_call 7; refine (HU1.out _).mono ?_; rintro e w3 ⟨ua, uc, rfl, hb3⟩; replace HB := hid (below_trans HB.out hb3); clear hb3)
        go_ret
        exact ret_true (by simp) HB.out
      have HU2 : Hid (∀ W : World, Calls Try.prog 7 #[.string (strOfNums (qt xs))] W fun e w' => ∃ a c, e = .returned (.tuple #[.slice a la c, .int .i64 0]) ∧ Reads w' a la c xs ∧ Below W.heap.size W w') := hid fun W => (HU.out W).mono fun e w' h => by
        rw [uqE_qt Hxb.out (by rw [Hn.out]; exact hbig)] at h
        obtain ⟨a, c, h1, h2, h3⟩ := h
        rw [HXa.out.length] at h1 h2
        exact ⟨a, c, h1, h2, h3⟩
      have hbi : (n : Int) ≤ 65536 := by omega
      clear HU hbig
      have hA := rn_range xs
      have hB := rn_range ys
      have hlA : (xs.length : Int) ≤ 1048576 := by rw [HXa.out.length]; have := Hma.out; omega
      have hlB : (ys.length : Int) ≤ 1048576 := by rw [HXb.out.length]; have := Hmb.out; omega
      have HAp : Hid (0 ≤ rn xs → 0 ≤ rn ys → rn (xs ++ ys) = rn xs + rn ys) := hid fun h1 h2 => rn_append Hxb.out h1 h2
      obtain ⟨A, hAe⟩ : ∃ A, rn xs = A := ⟨_, rfl⟩
      obtain ⟨B, hBe⟩ : ∃ B, rn ys = B := ⟨_, rfl⟩
      rw [hAe] at hA HAp
      rw [hBe] at hB HAp
      have HAe := hid hAe
      have HBe := hid hBe
      clear hAe hBe
      by_cases vA : 0 ≤ A
      · have dA : decide (0 ≤ A) = true := by simpa using vA
        have mA : max A 0 = A := by omega
        by_cases vB : 0 ≤ B
        · have dB : decide (0 ≤ B) = true := by simpa using vB
          have mB : max B 0 = B := by omega
          have HC : Hid (rn (xs ++ ys) = A + B) := hid (HAp.out vA vB)
          have dC : decide (0 ≤ A + B) = true := by simp; omega
          have mC : max (A + B) 0 = A + B := by omega
          clear HAp
          go_wp2_with (first
            | (go_at_call 7; refine (HU2.out _).mono ?_; rintro e w3 ⟨ua, uc, rfl, hr3, hb3⟩; have hc3 := conv hr3; replace HB := hid (below_trans HB.out hb3); have hc4 := conv (reads_kept HXa.out HB.out); clear hr3 hb3)
            | (go_at_call_of 9 (Value.slice a la ca); refine (validW _ _ _ xs _ (reads_kept HXa.out HB.out)).mono ?_; rintro e w4 ⟨rfl, hb4⟩; rw [HAe.out]; replace HB := hid (below_trans HB.out hb4); clear hb4)
            | (go_at_call_of 9 (Value.slice b lb cb); refine (validW _ _ _ ys _ (reads_kept HXb.out HB.out)).mono ?_; rintro e w5 ⟨rfl, hb5⟩; rw [HBe.out]; replace HB := hid (below_trans HB.out hb5); clear hb5; obtain ⟨v6, ac, cc, w6, w7, r6, r7, hrc, hb7⟩ := two_cat w5 a b la ca lb cb xs ys (reads_kept HXa.out HB.out) (reads_kept HXb.out HB.out) Hma.out Hmb.out; have R6 := hid r6; have R7 := hid r7; have HRC := hid hrc; replace HB := hid (below_trans HB.out hb7); have HD := hid (Below.refl w7.heap.size w7); clear r6 r7 hrc hb7)
            | (at_builtin; refine wpList_append_ran rfl _ _ 22 22 rfl rfl _ _ v6 w6 rfl rfl R6.out ?_)
            | (at_builtin; refine wpList_append_ran rfl _ _ 22 22 rfl rfl _ _ _ w7 rfl rfl R7.out ?_)
            | (go_at_call_of 9 (Value.slice ac (la + lb) cc); refine (validW _ _ _ (xs ++ ys) _ (reads_kept HRC.out HD.out)).mono ?_; rintro e w8 ⟨rfl, hb8⟩; rw [HC.out]; replace HD := hid (below_trans HD.out hb8); clear hb8)
            | (go_at_call_of 10 (Value.slice ac (la + lb) cc); refine (runesW _ _ _ (xs ++ ys) _ (reads_kept HRC.out HD.out)).mono ?_; rintro e w9 ⟨rfl, hb9⟩; rw [HC.out]; replace HD := hid (below_trans HD.out hb9); clear hb9)
            | (go_at_call_of 10 (Value.slice a la ca); refine (runesW _ _ _ xs _ (reads_kept HXa.out (below_trans HB.out HD.out))).mono ?_; rintro e w10 ⟨rfl, hb10⟩; rw [HAe.out]; replace HD := hid (below_trans HD.out hb10); clear hb10)
            | (go_at_call_of 10 (Value.slice b lb cb); refine (runesW _ _ _ ys _ (reads_kept HXb.out (below_trans HB.out HD.out))).mono ?_; rintro e w11 ⟨rfl, hb11⟩; rw [HBe.out]; replace HD := hid (below_trans HD.out hb11); clear hb11))
          go_ret
          exact ret_true (by simp; try omega) (below_trans HB.out HD.out)
        · have dB : decide (0 ≤ B) = false := by simpa using vB
          go_wp2_with (first
            | (go_at_call 7; refine (HU2.out _).mono ?_; rintro e w3 ⟨ua, uc, rfl, hr3, hb3⟩; have hc3 := conv hr3; replace HB := hid (below_trans HB.out hb3); have hc4 := conv (reads_kept HXa.out HB.out); clear hr3 hb3)
            | (go_at_call_of 9 (Value.slice a la ca); refine (validW _ _ _ xs _ (reads_kept HXa.out HB.out)).mono ?_; rintro e w4 ⟨rfl, hb4⟩; rw [HAe.out]; replace HB := hid (below_trans HB.out hb4); clear hb4)
            | (go_at_call_of 9 (Value.slice b lb cb); refine (validW _ _ _ ys _ (reads_kept HXb.out HB.out)).mono ?_; rintro e w5 ⟨rfl, hb5⟩; rw [HBe.out]; replace HB := hid (below_trans HB.out hb5); clear hb5))
          go_ret
          exact ret_true (by simp) HB.out
      · have dA : decide (0 ≤ A) = false := by simpa using vA
        have mA : max A 0 = 0 := by omega
        go_wp2_with (first
          | (go_at_call 7; refine (HU2.out _).mono ?_; rintro e w3 ⟨ua, uc, rfl, hr3, hb3⟩; have hc3 := conv hr3; replace HB := hid (below_trans HB.out hb3); have hc4 := conv (reads_kept HXa.out HB.out); clear hr3 hb3)
          | (go_at_call_of 9 (Value.slice a la ca); refine (validW _ _ _ xs _ (reads_kept HXa.out HB.out)).mono ?_; rintro e w4 ⟨rfl, hb4⟩; rw [HAe.out]; replace HB := hid (below_trans HB.out hb4); clear hb4)
          | (go_at_call 10; refine (runesW _ _ _ xs _ (reads_kept HXa.out HB.out)).mono ?_; rintro e w6 ⟨rfl, hb6⟩; rw [HAe.out]; replace HB := hid (below_trans HB.out hb6); clear hb6))
        go_ret
        exact ret_true (by simp) HB.out
end Go.Proofs.Ytiipbamckbeheaa
