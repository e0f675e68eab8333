/-
  P3.2: the law's walk.
-/
import Derived.Test.YtgcimeldofbgkaaSN
namespace Go.Proofs.Ytgcimeldofbgkaa
open Go.RowKit
set_option maxRecDepth 1000000
set_option maxHeartbeats 4000000

theorem cell_kept {w w' : World} {b o : Nat} {x : Value} (hb : Below w.heap.size w w') (h : w.cell? ⟨b, o, none⟩ = some x) : w'.cell? ⟨b, o, none⟩ = some x := by
  rw [hb.cell (p := ⟨b, o, none⟩) (World.block_lt_of_cell? _ _ h)]; exact h
theorem block_lt {w : World} {b o : Nat} {x : Value} (h : w.cell? ⟨b, o, none⟩ = some x) : b < w.heap.size := World.block_lt_of_cell? _ _ h
theorem same3Yes (a1 a2 : Option Addr) (l1 c1 l2 c2 : Nat) (xs : List Int) (w : World) (h1 : Reads w a1 l1 c1 xs) (h2 : Reads w a2 l2 c2 xs) :
    Calls Try.prog 22 #[.slice a1 l1 c1, .slice a2 l2 c2] w fun e w' => e = .returned (.bool true) ∧ w = w' :=
  (same3W a1 a2 l1 c1 l2 c2 xs xs w h1 h2).mono fun e w' h => ⟨by rw [h.1]; simp, h.2⟩
section
variable (k n p : Int) (a am ax : Option Addr) (len cap lm cm lx cx : Nat) (xs ys : List Int) (w : World)
theorem bytesOut (h : Reads w a len cap xs) (hx : Reads w ax lx cx ys) (pb : List Int) (pe : Int)
    (HP : ∀ W : World, Reads W a len cap xs → Calls Try.prog 19 #[.int .i64 k, .agg #[.int .u64 n, .slice a len cap, .slice am lm cm]] W fun e w' => ∃ a c, e = .returned (.tuple #[.slice a pb.length c, .int .i64 pe]) ∧ Reads w' a pb.length c pb ∧ Below W.heap.size W w')
    (HQ : ∀ W : World, Reads W a len cap xs → Calls Try.prog 21 #[.int .i64 k, .agg #[.int .u64 n, .slice a len cap, .slice am lm cm]] W fun e w' => ∃ a c, e = .returned (.tuple #[.slice a pb.length c, .int .i64 pe]) ∧ Reads w' a pb.length c pb ∧ Below W.heap.size W w')
    (HG : ∀ W : World, Reads W ax lx cx ys → Calls Try.prog 20 #[.int .i64 k, .slice ax lx cx, .int .i64 p] W fun e w' => ∃ a c, e = .returned (.tuple #[.agg #[.int .u64 0, .slice a 0 c, .slice none 0 0], .int .i64 0, .int .i64 18]) ∧ Reads w' a 0 c [] ∧ Below W.heap.size W w')
    (hout : k < 1 ∨ 16 < k ∨ p < 0 ∨ (lx : Int) < p) (_hlx : lx ≤ 9223372036854775807) :
    Calls Try.prog 4 #[.int .i64 k, .agg #[.int .u64 n, .slice a len cap, .slice am lm cm], .slice ax lx cx, .int .i64 p] w fun e w' => e = .returned (.bool true) ∧ Below w.heap.size w w' := by
  have HV := hid h
  have HX := hid hx
  have HP := hid HP
  have HQ := hid HQ
  have HG := hid HG
  have HA := hid awake3
  have HB : Hid (Below w.heap.size w w) := hid (Below.refl _ _)
  clear h hx
  have hc : (k < 1) ∨ (¬ k < 1 ∧ 16 < k) ∨ (¬ k < 1 ∧ ¬ 16 < k ∧ p < 0) ∨ (¬ k < 1 ∧ ¬ 16 < k ∧ ¬ p < 0 ∧ (lx : Int) < p) := by omega
  clear hout
  rcases hc with h1 | ⟨h1, h2⟩ | ⟨h1, h2, h3⟩ | ⟨h1, h2, h3, h4⟩
  all_goals
    go_enter Try.func4, Try.ntmps4
    go_wp2_with (first | (go_at_call 19; refine (HP.out _ (reads_kept HV.out (below_alloc _))).mono ?_; rintro e w1 ⟨pa, pc, rfl, hp, hb⟩; obtain ⟨d0, d1, d2⟩ := vcells hb; replace HB := hid (below_trans (below_alloc _) hb); replace hp := hid hp; clear hb) | (go_at_call 20; refine (HG.out _ (reads_kept HX.out HB.out)).mono ?_; rintro e w2 ⟨ga, gc, rfl, hg, hb⟩; replace d0 := cell_kept hb d0; replace d1 := cell_kept hb d1; replace d2 := cell_kept hb d2; have hgr := block_lt d0; replace HB := hid (below_trans HB.out hb); replace hp := hid (reads_kept hp.out hb); replace hg := hid hg; clear hb) | (go_at_call 21; refine (HQ.out _ (reads_kept (reads_kept HV.out HB.out) (below_alloc _))).mono ?_; rintro e w3 ⟨ra, rc, rfl, hr, hb⟩; obtain ⟨f0, f1, f2⟩ := vcells hb; clear d0 d1 d2; replace HB := hid (below_trans (below_trans HB.out (below_alloc _)) hb); replace hp := hid (reads_kept (reads_kept hp.out (below_alloc _)) hb); replace hg := hid (reads_kept (reads_kept hg.out (below_alloc _)) hb); replace hr := hid hr; clear hb) | (go_at_call 9; refine (HA.out _).mono ?_; rintro e w4 ⟨rfl, hb⟩; replace f0 := cell_kept hb f0; replace f1 := cell_kept hb f1; replace f2 := cell_kept hb f2; replace HB := hid (below_trans HB.out hb); replace hp := hid (reads_kept hp.out hb); replace hg := hid (reads_kept hg.out hb); replace hr := hid (reads_kept hr.out hb); clear hb) | (go_at_call 22; refine (same3Yes pa ra _ pc _ rc pb _ hp.out hr.out).mono ?_; rintro e w' ⟨rfl, rfl⟩) | (go_at_call 23; refine (toldYes 0 0 ga ga none none 0 gc 0 gc 0 0 [] [] _ 18 hg.out hg.out (by simp) (by simp)).mono ?_; rintro e w6 ⟨rfl, hb⟩; replace HB := hid (below_trans HB.out hb); clear hb))
    go_ret
    exact ⟨rfl, HB.out⟩
theorem bytesIn (h : Reads w a len cap xs) (hx : Reads w ax lx cx ys) (pb : List Int) (pe gn gnx ge : Int) (gb : List Int)
    (HP : ∀ W : World, Reads W a len cap xs → Calls Try.prog 19 #[.int .i64 k, .agg #[.int .u64 n, .slice a len cap, .slice am lm cm]] W fun e w' => ∃ a c, e = .returned (.tuple #[.slice a pb.length c, .int .i64 pe]) ∧ Reads w' a pb.length c pb ∧ Below W.heap.size W w')
    (HQ : ∀ W : World, Reads W a len cap xs → Calls Try.prog 21 #[.int .i64 k, .agg #[.int .u64 n, .slice a len cap, .slice am lm cm]] W fun e w' => ∃ a c, e = .returned (.tuple #[.slice a pb.length c, .int .i64 pe]) ∧ Reads w' a pb.length c pb ∧ Below W.heap.size W w')
    (HG : ∀ W : World, Reads W ax lx cx ys → Calls Try.prog 20 #[.int .i64 k, .slice ax lx cx, .int .i64 p] W fun e w' => ∃ a c, e = .returned (.tuple #[.agg #[.int .u64 gn, .slice a gb.length c, .slice none 0 0], .int .i64 gnx, .int .i64 ge]) ∧ Reads w' a gb.length c gb ∧ Below W.heap.size W w')
    (HR : ∀ W : World, Reads W ax lx cx ys → Calls Try.prog 24 #[.int .i64 k, .slice ax lx cx, .int .i64 p] W fun e w' => ∃ a c, e = .returned (.tuple #[.agg #[.int .u64 gn, .slice a gb.length c, .slice none 0 0], .int .i64 gnx, .int .i64 ge]) ∧ Reads w' a gb.length c gb ∧ Below W.heap.size W w')
    (hz : ge ≠ 0 → gn = 0 ∧ gb = []) (hk1 : 1 ≤ k) (hk2 : k ≤ 16) (hp1 : 0 ≤ p) (hp2 : p ≤ lx) (_hlx : lx ≤ 9223372036854775807) :
    Calls Try.prog 4 #[.int .i64 k, .agg #[.int .u64 n, .slice a len cap, .slice am lm cm], .slice ax lx cx, .int .i64 p] w fun e w' => e = .returned (.bool true) ∧ Below w.heap.size w w' := by
  have HV := hid h
  have HX := hid hx
  have HP := hid HP
  have HQ := hid HQ
  have HG := hid HG
  have HR := hid HR
  have HA := hid awake3
  have HZ := hid hz
  have HB : Hid (Below w.heap.size w w) := hid (Below.refl _ _)
  clear h hx hz
  go_enter Try.func4, Try.ntmps4
  go_wp2_with (first | (go_at_call 19; refine (HP.out _ (reads_kept HV.out (below_alloc _))).mono ?_; rintro e w1 ⟨pa, pc, rfl, hp, hb⟩; obtain ⟨d0, d1, d2⟩ := vcells hb; replace HB := hid (below_trans (below_alloc _) hb); replace hp := hid hp; clear hb) | (go_at_call 20; refine (HG.out _ (reads_kept HX.out HB.out)).mono ?_; rintro e w2 ⟨ga, gc, rfl, hg, hb⟩; replace d0 := cell_kept hb d0; replace d1 := cell_kept hb d1; replace d2 := cell_kept hb d2; have hgr := block_lt d0; replace HB := hid (below_trans HB.out hb); replace hp := hid (reads_kept hp.out hb); replace hg := hid hg; clear hb) | (go_at_call 21; refine (HQ.out _ (reads_kept (reads_kept HV.out HB.out) (below_alloc _))).mono ?_; rintro e w3 ⟨ra, rc, rfl, hr, hb⟩; obtain ⟨f0, f1, f2⟩ := vcells hb; clear d0 d1 d2; replace HB := hid (below_trans (below_trans HB.out (below_alloc _)) hb); replace hp := hid (reads_kept (reads_kept hp.out (below_alloc _)) hb); replace hg := hid (reads_kept (reads_kept hg.out (below_alloc _)) hb); replace hr := hid hr; clear hb) | (go_at_call 9; refine (HA.out _).mono ?_; rintro e w4 ⟨rfl, hb⟩; replace f0 := cell_kept hb f0; replace f1 := cell_kept hb f1; replace f2 := cell_kept hb f2; replace HB := hid (below_trans HB.out hb); replace hp := hid (reads_kept hp.out hb); replace hg := hid (reads_kept hg.out hb); replace hr := hid (reads_kept hr.out hb); clear hb) | (go_at_call 22; refine (same3Yes pa ra _ pc _ rc pb _ hp.out hr.out).mono ?_; rintro e w' ⟨rfl, rfl⟩) | (go_at_call 24; refine (HR.out _ (reads_kept HX.out HB.out)).mono ?_; rintro e w5 ⟨xa, xc, rfl, hx, hb⟩; replace f0 := cell_kept hb f0; replace f1 := cell_kept hb f1; replace f2 := cell_kept hb f2; have hgr5 := block_lt f0; replace HB := hid (below_trans HB.out hb); replace hg := hid (reads_kept hg.out hb); replace hx := hid hx; clear hb hgr) | (go_at_call 23; refine (toldYes gn gn ga xa none none gb.length gc gb.length xc 0 0 gb gb _ ge (reads_kept hg.out (below_alloc _)) (reads_kept hx.out (below_alloc _)) HZ.out (by simp)).mono ?_; rintro e w6 ⟨rfl, hb⟩; replace HB := hid (below_trans (below_trans HB.out (below_alloc _)) hb); clear hb))
  go_ret
  exact ⟨by simp, HB.out⟩
theorem scalarBytesW (h0 : 0 ≤ n) (h1 : n < 18446744073709551616) (h : Reads w a len cap xs) (hx : Reads w ax lx cx ys) (hm : lm ≤ 9223372036854775807) (hl : 10 + len ≤ 140737488355328) (hlx : lx ≤ 140737488355328) :
    Calls Try.prog 4 #[.int .i64 k, .agg #[.int .u64 n, .slice a len cap, .slice am lm cm], .slice ax lx cx, .int .i64 p] w fun e w' => e = .returned (.bool true) ∧ Below w.heap.size w w' := by
  have hxl := hx.length
  have HP := fun (W : World) (hw : Reads W a len cap xs) => (putKW k n a am len cap lm cm W xs h0 h1 hw hm hl).mono fun e w' h => wrote_is (ys := (putE k n xs lm).1) (er := (putE k n xs lm).2) h rfl
  have HQ := fun (W : World) (hw : Reads W a len cap xs) => (putKR k n a am len cap lm cm W xs h0 h1 hw hm hl).mono fun e w' h => wrote_is (ys := (putE k n xs lm).1) (er := (putE k n xs lm).2) h rfl
  by_cases hout : k < 1 ∨ 16 < k ∨ p < 0 ∨ (lx : Int) < p
  · refine bytesOut k n p a am ax len cap lm cm lx cx xs ys w h hx _ _ HP HQ (fun W hw => (getKW k ax lx cx p ys W hw hlx).mono fun e w' h => ?_) hout (by omega)
    have := gave_is h (n := 0) (ys := []) (nx := 0) (er := 18) (getE_no (by
      rw [hxl]
      rcases hout with h | h | h | h
      · exact .inl (by unfold kone; simp; omega)
      · exact .inl (by unfold kone; simp; omega)
      · exact .inr (.inl h)
      · exact .inr (.inr h)))
    simpa using this
  · have hk : kone k = true := by unfold kone; simp; omega
    obtain ⟨q, rfl⟩ : ∃ q : Nat, p = q := ⟨p.toNat, by omega⟩
    have hq : q ≤ lx := by omega
    refine bytesIn k n q a am ax len cap lm cm lx cx xs ys w h hx _ _ (getV k ys q).n (getV k ys q).next (getV k ys q).err (getV k ys q).b HP HQ (fun W hw => (getKW k ax lx cx q ys W hw hlx).mono fun e w' h => gave_is (gave_eq h (getE_in hk (by omega))) rfl) (fun W hw => (getKR k ax lx cx q ys W hw hq hk hlx).mono fun e w' h => gave_is h rfl) ?_ (by omega) (by omega) (by omega) (by omega) (by omega)
    unfold getV
    split
    · split
      · exact fun _ => ⟨rfl, rfl⟩
      · split
        · exact fun _ => ⟨rfl, rfl⟩
        · exact fun h => absurd rfl h
    · split
      · exact fun _ => ⟨rfl, rfl⟩
      · split
        · exact fun _ => ⟨rfl, rfl⟩
        · exact fun h => absurd rfl h
end
end Go.Proofs.Ytgcimeldofbgkaa
