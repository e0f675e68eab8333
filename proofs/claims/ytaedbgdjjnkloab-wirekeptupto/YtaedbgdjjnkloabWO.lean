/-
  Walks over writing entries: their faults and their bytes, the program's and the document's.
-/
import Derived.Test.YtaedbgdjjnkloabWN
import Derived.Test.YtaedbgdjjnkloabM4
namespace Go.Proofs.Ytaedbgdjjnkloab
open Go.RowKit

set_option maxHeartbeats 400000 in
theorem entryFaultW (num kind n : Int) (a : Option Addr) (len cap : Nat) (w : World) (hl : len ≤ 9223372036854775807) :
    Calls Try.prog 14 #[.agg #[.int .i64 num, .int .i64 kind, .int .u64 n, .slice a len cap]] w fun e w' => e = .returned (.int .i64 (ef num kind n len)) ∧ Below w.heap.size w w' := by
  by_cases ht : tf num kind ≠ 0
  · have hne : (tf num kind != 0) = true := by simp [ht]
    rw [ef_tf ht]
    clear ht
    go_enter Try.func14, Try.ntmps14
    go_wp2_with (go_at_call 22; refine (tagFaultW _ _ _).mono ?_; rintro e w' ⟨rfl, rfl⟩)
    go_ret
    exact ⟨rfl, below_alloc _⟩
  · have ht : tf num kind = 0 := by simpa using ht
    rw [ef_fit ht]
    obtain ⟨_, _, hk⟩ := tf_ok ht
    have HT := hid ht
    clear ht
    have hk2 := okK_cases hk
    clear hk
    rcases hk2 with rfl | rfl | rfl | rfl
    · by_cases hz : len = 0
      · subst hz
        have HF : (if fit 0 n 0 = true then (0 : Int) else 7) = 0 := by simp [fit]
        rw [HF]
        clear HF
        go_enter Try.func14, Try.ntmps14
        go_wp2_with (go_at_call 22; refine (tagFaultW _ _ _).mono ?_; rw [HT.out]; rintro e w' ⟨rfl, rfl⟩)
        go_ret
        exact ⟨rfl, below_alloc _⟩
      · have hzb : ((len : Int) == 0) = false := by simp [hz]
        have HF : (if fit 0 n len = true then (0 : Int) else 7) = 7 := by simp [fit, hz]
        rw [HF]
        clear HF
        clear hz
        go_enter Try.func14, Try.ntmps14
        go_wp2_with (go_at_call 22; refine (tagFaultW _ _ _).mono ?_; rw [HT.out]; rintro e w' ⟨rfl, rfl⟩)
        go_ret
        exact ⟨rfl, below_alloc _⟩
    · by_cases hz : len = 0
      · subst hz
        have HF : (if fit 1 n 0 = true then (0 : Int) else 7) = 0 := by simp [fit]
        rw [HF]
        clear HF
        go_enter Try.func14, Try.ntmps14
        go_wp2_with (go_at_call 22; refine (tagFaultW _ _ _).mono ?_; rw [HT.out]; rintro e w' ⟨rfl, rfl⟩)
        go_ret
        exact ⟨rfl, below_alloc _⟩
      · have hzb : ((len : Int) == 0) = false := by simp [hz]
        have HF : (if fit 1 n len = true then (0 : Int) else 7) = 7 := by simp [fit, hz]
        rw [HF]
        clear HF
        clear hz
        go_enter Try.func14, Try.ntmps14
        go_wp2_with (go_at_call 22; refine (tagFaultW _ _ _).mono ?_; rw [HT.out]; rintro e w' ⟨rfl, rfl⟩)
        go_ret
        exact ⟨rfl, below_alloc _⟩
    · by_cases hz : n = 0
      · subst hz
        have HF : (if fit 2 0 len = true then (0 : Int) else 7) = 0 := by simp [fit]
        rw [HF]
        clear HF
        go_enter Try.func14, Try.ntmps14
        go_wp2_with (go_at_call 22; refine (tagFaultW _ _ _).mono ?_; rw [HT.out]; rintro e w' ⟨rfl, rfl⟩)
        go_ret
        exact ⟨rfl, below_alloc _⟩
      · have hzb : (n == 0) = false := by simp [hz]
        have HF : (if fit 2 n len = true then (0 : Int) else 7) = 7 := by simp [fit, hz]
        rw [HF]
        clear HF
        clear hz
        go_enter Try.func14, Try.ntmps14
        go_wp2_with (go_at_call 22; refine (tagFaultW _ _ _).mono ?_; rw [HT.out]; rintro e w' ⟨rfl, rfl⟩)
        go_ret
        exact ⟨rfl, below_alloc _⟩
    · by_cases hz : len = 0
      · subst hz
        by_cases hn : n ≤ 4294967295
        · have HF : (if fit 5 n 0 = true then (0 : Int) else 7) = 0 := by simp [fit, hn]
          rw [HF]
          clear HF
          have hd : decide (n ≤ 4294967295) = true := by simpa using hn
          go_enter Try.func14, Try.ntmps14
          go_wp2_with (go_at_call 22; refine (tagFaultW _ _ _).mono ?_; rw [HT.out]; rintro e w' ⟨rfl, rfl⟩)
          go_ret
          exact ⟨rfl, below_alloc _⟩
        · have HF : (if fit 5 n 0 = true then (0 : Int) else 7) = 7 := by simp [fit, hn]
          rw [HF]
          clear HF
          have hd : decide (n ≤ 4294967295) = false := by simpa using hn
          go_enter Try.func14, Try.ntmps14
          go_wp2_with (go_at_call 22; refine (tagFaultW _ _ _).mono ?_; rw [HT.out]; rintro e w' ⟨rfl, rfl⟩)
          go_ret
          exact ⟨rfl, below_alloc _⟩
      · have hzb : ((len : Int) == 0) = false := by simp [hz]
        have HF : (if fit 5 n len = true then (0 : Int) else 7) = 7 := by simp [fit, hz]
        rw [HF]
        clear HF
        clear hz
        go_enter Try.func14, Try.ntmps14
        go_wp2_with (go_at_call 22; refine (tagFaultW _ _ _).mono ?_; rw [HT.out]; rintro e w' ⟨rfl, rfl⟩)
        go_ret
        exact ⟨rfl, below_alloc _⟩

theorem own_cat2 {w : World} {base m : Nat} {v : Value} {xs : List Value} {ps ys zs : List Int} (h : w.ownsRow base 5 1 v (m + ps.length + ys.length) (xs ++ ps.map (Value.int .u8) ++ ys.map (Value.int .u8))) (e : zs = ps ++ ys) :
    w.ownsRow base 5 1 v (m + zs.length) (xs ++ zs.map (Value.int .u8)) := by
  subst e
  exact own_cat h rfl rfl

set_option maxHeartbeats 1000000 in
theorem addEntryW (base : Nat) (v : Value) (m : Nat) (xs : List Value) (num kind n : Int) (a : Option Addr) (len cap : Nat) (ys : List Int) (w : World) (hown : w.ownsRow base 5 1 v m xs) (hb : base ≤ w.heap.size) (hsrc : ∀ w', Below base w w' → Reads w' a len cap ys)
    (ht : tf num kind = 0) (hn0 : 0 ≤ n) (hn1 : n < 18446744073709551616) (hm : m + 20 + len ≤ 140737488355328) :
    Calls Try.prog 15 #[v, .agg #[.int .i64 num, .int .i64 kind, .int .u64 n, .slice a len cap]] w fun e w' => ∃ v', e = .returned v' ∧ w'.ownsRow base 5 1 v' (m + (pe num kind n ys).length) (xs ++ (pe num kind n ys).map (Value.int .u8)) ∧ Grow w w' v v' := by
  obtain ⟨h1, h2, hk⟩ := tf_ok ht
  have hkb := okK_bd hk
  have hlv : ∀ k, v.ownBlock = some k → base ≤ k ∧ k < w.heap.size := hown.lt
  have HLV := hid hlv
  have HT := hid ht
  have HS := hid hsrc
  have HO := hid hown
  have hpl := (pv_len (num * 8 + kind)).2
  clear hsrc hown ht hlv
  go_enter Try.func15, Try.ntmps15
  go_wp2_with fail
  refine (tagW _ _ _ HT.out).mono ?_
  rintro e w' ⟨rfl, rfl⟩
  go_wp2_with fail
  refine (addvG base v m xs (num * 8 + kind) _ (HO.out.alloc _) (by simp; omega) (by omega) (by omega) (by omega)).mono ?_
  rintro e w2 ⟨v2, rfl, ho2, hg2⟩
  have hg0 : Grow w (w.alloc (.cells #[.int .i64 num, .int .i64 kind, .int .u64 n, .slice a len cap] 37)) v v := (Grow.refl w v).alloc _
  have hbx : ∀ o, w2.cell? ⟨w.heap.size, o, none⟩ = (w.alloc (.cells #[.int .i64 num, .int .i64 kind, .int .u64 n, .slice a len cap] 37)).cell? ⟨w.heap.size, o, none⟩ := fun o => World.cell?_of_block (hg2.block w.heap.size (by simp) (fun e => by have := (HLV.out _ e).2; omega))
  have c1 : w2.cell? ⟨w.heap.size, 1, none⟩ = some (.int .i64 kind) := by rw [hbx, World.cell?_alloc_at _ _ _ _ rfl]; rfl
  have c2 : w2.cell? ⟨w.heap.size, 2, none⟩ = some (.int .u64 n) := by rw [hbx, World.cell?_alloc_at _ _ _ _ rfl]; rfl
  have c3 : w2.cell? ⟨w.heap.size, 3, none⟩ = some (.slice a len cap) := by rw [hbx, World.cell?_alloc_at _ _ _ _ rfl]; rfl
  have hsz2 : w.heap.size + 1 ≤ w2.heap.size := by have := hg2.size; simpa using this
  have hb2 : Below base w w2 := (hg0.trans hg2).below hb (fun k hk => (HLV.out k hk).1)
  have HB2 := hid hb2
  have HO2 := hid ho2
  have HG2 := hid hg2
  have HG0 := hid hg0
  clear hbx hb2 ho2 hg2 hg0
  have hk2 := okK_cases hk
  clear hk
  rcases hk2 with rfl | rfl | rfl | rfl
  · go_wp2_with fail
    refine (addvG base v2 _ _ n _ HO2.out (by omega) hn0 hn1 (by omega)).mono ?_
    rintro e w3 ⟨v3, rfl, ho3, hg3⟩
    go_wp2
    go_ret
    exact ⟨v3, rfl, own_cat2 ho3 rfl, (HG0.out.trans HG2.out).trans hg3⟩
  · go_wp2_with fail
    refine (addWordG base v2 _ _ n 8 _ HO2.out (by omega) (by omega) (by omega)).mono ?_
    rintro e w3 ⟨v3, rfl, ho3, hg3⟩
    go_wp2
    go_ret
    exact ⟨v3, rfl, own_cat2 ho3 rfl, (HG0.out.trans HG2.out).trans hg3⟩
  · go_wp2_with fail
    refine (addChunkG base v2 _ _ a len cap ys _ HO2.out (by omega) (fun w' h => HS.out w' (HB2.out.trans h)) (by omega)).mono ?_
    rintro e w3 ⟨v3, rfl, ho3, hg3⟩
    go_wp2
    go_ret
    exact ⟨v3, rfl, own_cat2 ho3 rfl, (HG0.out.trans HG2.out).trans hg3⟩
  · go_wp2_with fail
    refine (addWordG base v2 _ _ n 4 _ HO2.out (by omega) (by omega) (by omega)).mono ?_
    rintro e w3 ⟨v3, rfl, ho3, hg3⟩
    go_wp2
    go_ret
    exact ⟨v3, rfl, own_cat2 ho3 rfl, (HG0.out.trans HG2.out).trans hg3⟩
end Go.Proofs.Ytaedbgdjjnkloab
