/-
  Walks over writing entries: their faults and their bytes, the program's and the document's.
  Walks over PutEntry, the program's and the document's.
  Entries that can be written; what a typed message holds.
  Whether a message is typed, with all messages within.
  What stays of a typed message.
  What stays of a typed message: its lists; whether all stays.
  The program's Set: what stays beside a field, and its place.
-/
import Derived.Test.YtgephggcgopfgaaGreatDoorCBE
import Derived.Test.YtgephggcgopfgaaGreatDoorCCE
import Derived.Test.YtgephggcgopfgaaGreatDoorCAP
import Derived.Test.YtgephggcgopfgaaGreatDoorCTY
import Derived.Test.YtgephggcgopfgaaGreatDoorCAG
namespace Go.Proofs.YtgephggcgopfgaaGreatDoor.W
open Go.RowKit
set_option maxRecDepth 1000000
set_option maxHeartbeats 400000 in
theorem entryFaultW (num kind n : Int) (a : Option Addr) (len cap : Nat) (w : World) (hl : len ≤ 9223372036854775807) :
    Calls Tryz.prog 188 #[.agg #[.int .i64 num, .int .i64 kind, .int .u64 n, .slice a len cap]] w fun e w' => e = .returned (.int .i64 (ef num kind n len)) ∧ Below w.heap.size w w' := by
  by_cases ht : tf num kind ≠ 0
  · have hne : (tf num kind != 0) = true := by simp [ht]
    rw [ef_tf ht]
    clear ht
    go_enter Tryz.func188, Tryz.ntmps188
    go_wp2_with (go_at_call 213; refine (tagFaultW _ _ _).mono ?_; rintro e w' ⟨rfl, rfl⟩)
    go_ret
    exact ⟨rfl, below_alloc _⟩
  · have ht : tf num kind = 0 := by simpa using ht
    rw [ef_fit ht]
    obtain ⟨_, _, hk⟩ := tf_ok ht
    have HT := hid ht
    clear ht
    have hk2 := okK_cases hk
    clear hk
    rcases hk2 with rfl | rfl | rfl | rfl
    · by_cases hz : len = 0
      · subst hz
        have HF : (if fit 0 n 0 = true then (0 : Int) else 7) = 0 := by simp [fit]
        rw [HF]
        clear HF
        go_enter Tryz.func188, Tryz.ntmps188
        go_wp2_with (go_at_call 213; refine (tagFaultW _ _ _).mono ?_; rw [HT.out]; rintro e w' ⟨rfl, rfl⟩)
        go_ret
        exact ⟨rfl, below_alloc _⟩
      · have hzb : ((len : Int) == 0) = false := by simp [hz]
        have HF : (if fit 0 n len = true then (0 : Int) else 7) = 7 := by simp [fit, hz]
        rw [HF]
        clear HF
        clear hz
        go_enter Tryz.func188, Tryz.ntmps188
        go_wp2_with (go_at_call 213; refine (tagFaultW _ _ _).mono ?_; rw [HT.out]; rintro e w' ⟨rfl, rfl⟩)
        go_ret
        exact ⟨rfl, below_alloc _⟩
    · by_cases hz : len = 0
      · subst hz
        have HF : (if fit 1 n 0 = true then (0 : Int) else 7) = 0 := by simp [fit]
        rw [HF]
        clear HF
        go_enter Tryz.func188, Tryz.ntmps188
        go_wp2_with (go_at_call 213; refine (tagFaultW _ _ _).mono ?_; rw [HT.out]; rintro e w' ⟨rfl, rfl⟩)
        go_ret
        exact ⟨rfl, below_alloc _⟩
      · have hzb : ((len : Int) == 0) = false := by simp [hz]
        have HF : (if fit 1 n len = true then (0 : Int) else 7) = 7 := by simp [fit, hz]
        rw [HF]
        clear HF
        clear hz
        go_enter Tryz.func188, Tryz.ntmps188
        go_wp2_with (go_at_call 213; refine (tagFaultW _ _ _).mono ?_; rw [HT.out]; rintro e w' ⟨rfl, rfl⟩)
        go_ret
        exact ⟨rfl, below_alloc _⟩
    · by_cases hz : n = 0
      · subst hz
        have HF : (if fit 2 0 len = true then (0 : Int) else 7) = 0 := by simp [fit]
        rw [HF]
        clear HF
        go_enter Tryz.func188, Tryz.ntmps188
        go_wp2_with (go_at_call 213; refine (tagFaultW _ _ _).mono ?_; rw [HT.out]; rintro e w' ⟨rfl, rfl⟩)
        go_ret
        exact ⟨rfl, below_alloc _⟩
      · have hzb : (n == 0) = false := by simp [hz]
        have HF : (if fit 2 n len = true then (0 : Int) else 7) = 7 := by simp [fit, hz]
        rw [HF]
        clear HF
        clear hz
        go_enter Tryz.func188, Tryz.ntmps188
        go_wp2_with (go_at_call 213; refine (tagFaultW _ _ _).mono ?_; rw [HT.out]; rintro e w' ⟨rfl, rfl⟩)
        go_ret
        exact ⟨rfl, below_alloc _⟩
    · by_cases hz : len = 0
      · subst hz
        by_cases hn : n ≤ 4294967295
        · have HF : (if fit 5 n 0 = true then (0 : Int) else 7) = 0 := by simp [fit, hn]
          rw [HF]
          clear HF
          have hd : decide (n ≤ 4294967295) = true := by simpa using hn
          go_enter Tryz.func188, Tryz.ntmps188
          go_wp2_with (go_at_call 213; refine (tagFaultW _ _ _).mono ?_; rw [HT.out]; rintro e w' ⟨rfl, rfl⟩)
          go_ret
          exact ⟨rfl, below_alloc _⟩
        · have HF : (if fit 5 n 0 = true then (0 : Int) else 7) = 7 := by simp [fit, hn]
          rw [HF]
          clear HF
          have hd : decide (n ≤ 4294967295) = false := by simpa using hn
          go_enter Tryz.func188, Tryz.ntmps188
          go_wp2_with (go_at_call 213; refine (tagFaultW _ _ _).mono ?_; rw [HT.out]; rintro e w' ⟨rfl, rfl⟩)
          go_ret
          exact ⟨rfl, below_alloc _⟩
      · have hzb : ((len : Int) == 0) = false := by simp [hz]
        have HF : (if fit 5 n len = true then (0 : Int) else 7) = 7 := by simp [fit, hz]
        rw [HF]
        clear HF
        clear hz
        go_enter Tryz.func188, Tryz.ntmps188
        go_wp2_with (go_at_call 213; refine (tagFaultW _ _ _).mono ?_; rw [HT.out]; rintro e w' ⟨rfl, rfl⟩)
        go_ret
        exact ⟨rfl, below_alloc _⟩
theorem own_cat2 {w : World} {base m : Nat} {v : Value} {xs : List Value} {ps ys zs : List Int} (h : w.ownsRow base 5 1 v (m + ps.length + ys.length) (xs ++ ps.map (Value.int .u8) ++ ys.map (Value.int .u8))) (e : zs = ps ++ ys) :
    w.ownsRow base 5 1 v (m + zs.length) (xs ++ zs.map (Value.int .u8)) := by
  subst e
  exact own_cat h rfl rfl
set_option maxHeartbeats 1000000 in
theorem addEntryW (base : Nat) (v : Value) (m : Nat) (xs : List Value) (num kind n : Int) (a : Option Addr) (len cap : Nat) (ys : List Int) (w : World) (hown : w.ownsRow base 5 1 v m xs) (hb : base ≤ w.heap.size) (hsrc : ∀ w', Below base w w' → Reads w' a len cap ys)
    (ht : tf num kind = 0) (hn0 : 0 ≤ n) (hn1 : n < 18446744073709551616) (hm : m + 20 + len ≤ 140737488355328) :
    Calls Tryz.prog 189 #[v, .agg #[.int .i64 num, .int .i64 kind, .int .u64 n, .slice a len cap]] w fun e w' => ∃ v', e = .returned v' ∧ w'.ownsRow base 5 1 v' (m + (pe num kind n ys).length) (xs ++ (pe num kind n ys).map (Value.int .u8)) ∧ Grow w w' v v' := by
  obtain ⟨h1, h2, hk⟩ := tf_ok ht
  have hkb := okK_bd hk
  have hlv : ∀ k, v.ownBlock = some k → base ≤ k ∧ k < w.heap.size := hown.lt
  have HLV := hid hlv
  have HT := hid ht
  have HS := hid hsrc
  have HO := hid hown
  have hpl := (pv_len (num * 8 + kind)).2
  clear hsrc hown ht hlv
  go_enter Tryz.func189, Tryz.ntmps189
  go_wp2_with fail
  refine (tagW _ _ _ HT.out).mono ?_
  rintro e w' ⟨rfl, rfl⟩
  go_wp2_with fail
  refine (addvG base v m xs (num * 8 + kind) _ (HO.out.alloc _) (by simp; omega) (by omega) (by omega) (by omega)).mono ?_
  rintro e w2 ⟨v2, rfl, ho2, hg2⟩
  have hg0 : Grow w (w.alloc (.cells #[.int .i64 num, .int .i64 kind, .int .u64 n, .slice a len cap] 40)) v v := (Grow.refl w v).alloc _
  have hbx : ∀ o, w2.cell? ⟨w.heap.size, o, none⟩ = (w.alloc (.cells #[.int .i64 num, .int .i64 kind, .int .u64 n, .slice a len cap] 40)).cell? ⟨w.heap.size, o, none⟩ := fun o => World.cell?_of_block (hg2.block w.heap.size (by simp) (fun e => by have := (HLV.out _ e).2; omega))
  have c1 : w2.cell? ⟨w.heap.size, 1, none⟩ = some (.int .i64 kind) := by rw [hbx, World.cell?_alloc_at _ _ _ _ rfl]; rfl
  have c2 : w2.cell? ⟨w.heap.size, 2, none⟩ = some (.int .u64 n) := by rw [hbx, World.cell?_alloc_at _ _ _ _ rfl]; rfl
  have c3 : w2.cell? ⟨w.heap.size, 3, none⟩ = some (.slice a len cap) := by rw [hbx, World.cell?_alloc_at _ _ _ _ rfl]; rfl
  have hsz2 : w.heap.size + 1 ≤ w2.heap.size := by have := hg2.size; simpa using this
  have hb2 : Below base w w2 := (hg0.trans hg2).below hb (fun k hk => (HLV.out k hk).1)
  have HB2 := hid hb2
  have HO2 := hid ho2
  have HG2 := hid hg2
  have HG0 := hid hg0
  clear hbx hb2 ho2 hg2 hg0
  have hk2 := okK_cases hk
  clear hk
  rcases hk2 with rfl | rfl | rfl | rfl
  · go_wp2_with fail
    refine (addvG base v2 _ _ n _ HO2.out (by omega) hn0 hn1 (by omega)).mono ?_
    rintro e w3 ⟨v3, rfl, ho3, hg3⟩
    go_wp2
    go_ret
    exact ⟨v3, rfl, own_cat2 ho3 rfl, (HG0.out.trans HG2.out).trans hg3⟩
  · go_wp2_with fail
    refine (addWordG base v2 _ _ n 8 _ HO2.out (by omega) (by omega) (by omega)).mono ?_
    rintro e w3 ⟨v3, rfl, ho3, hg3⟩
    go_wp2
    go_ret
    exact ⟨v3, rfl, own_cat2 ho3 rfl, (HG0.out.trans HG2.out).trans hg3⟩
  · go_wp2_with fail
    refine (addChunkG base v2 _ _ a len cap ys _ HO2.out (by omega) (fun w' h => HS.out w' (HB2.out.trans h)) (by omega)).mono ?_
    rintro e w3 ⟨v3, rfl, ho3, hg3⟩
    go_wp2
    go_ret
    exact ⟨v3, rfl, own_cat2 ho3 rfl, (HG0.out.trans HG2.out).trans hg3⟩
  · go_wp2_with fail
    refine (addWordG base v2 _ _ n 4 _ HO2.out (by omega) (by omega) (by omega)).mono ?_
    rintro e w3 ⟨v3, rfl, ho3, hg3⟩
    go_wp2
    go_ret
    exact ⟨v3, rfl, own_cat2 ho3 rfl, (HG0.out.trans HG2.out).trans hg3⟩
end Go.Proofs.YtgephggcgopfgaaGreatDoor.W
namespace Go.Proofs.YtgephggcgopfgaaGreatDoor.W
open Go.RowKit
set_option maxRecDepth 1000000
def pp (num kind n : Int) (ys : List Int) : List Int := if ef num kind n ys.length = 0 then pe num kind n ys else []
set_option maxHeartbeats 400000 in
theorem putEntryNo (num kind n : Int) (a : Option Addr) (len cap : Nat) (w : World) (hl : len ≤ 9223372036854775807) (he : ef num kind n len ≠ 0) :
    Calls Tryz.prog 159 #[.agg #[.int .i64 num, .int .i64 kind, .int .u64 n, .slice a len cap]] w fun e w' => e = .returned (.tuple #[.slice none 0 0, .int .i64 (ef num kind n len)]) ∧ Below w.heap.size w w' := by
  have hne : (ef num kind n len != 0) = true := by simp [he]
  clear he
  go_enter Tryz.func159, Tryz.ntmps159
  go_wp2_with fail
  refine (entryFaultW _ _ _ _ _ _ _ hl).mono ?_
  rintro e w1 ⟨rfl, hb1⟩
  go_wp2
  go_ret2
  exact ⟨rfl, below_trans (below_alloc _) hb1⟩
set_option maxHeartbeats 400000 in
theorem putEntryYes (num kind n : Int) (a : Option Addr) (len cap : Nat) (ys : List Int) (w : World) (hr : Reads w a len cap ys) (he : ef num kind n len = 0) (hn0 : 0 ≤ n) (hn1 : n < 18446744073709551616) (hm : 20 + len ≤ 140737488355328) :
    Calls Tryz.prog 159 #[.agg #[.int .i64 num, .int .i64 kind, .int .u64 n, .slice a len cap]] w fun e w' => ∃ v, e = .returned (.tuple #[v, .int .i64 0]) ∧ w'.ownsRow w.heap.size 5 1 v (pe num kind n ys).length ((pe num kind n ys).map (Value.int .u8)) ∧ Below w.heap.size w w' := by
  have HE := hid he
  have HT := hid (ef_ok he).1
  have HR := hid hr
  have hl : len ≤ 9223372036854775807 := Nat.le_trans hr.le hr.max
  clear he hr
  go_enter Tryz.func159, Tryz.ntmps159
  go_wp2_with fail
  refine (entryFaultW _ _ _ _ _ _ _ hl).mono ?_
  rw [HE.out]
  rintro e w1 ⟨rfl, hb1⟩
  have hb := below_trans (below_alloc (.cells #[.int .i64 num, .int .i64 kind, .int .u64 n, .slice a len cap] 40)) hb1
  have c0 : w1.cell? ⟨w.heap.size, 0, none⟩ = some (.int .i64 num) := by rw [hb1.cell (p := ⟨w.heap.size, 0, none⟩) (by simp), World.cell?_alloc_at _ _ _ _ rfl]; rfl
  have c1 : w1.cell? ⟨w.heap.size, 1, none⟩ = some (.int .i64 kind) := by rw [hb1.cell (p := ⟨w.heap.size, 1, none⟩) (by simp), World.cell?_alloc_at _ _ _ _ rfl]; rfl
  have c2 : w1.cell? ⟨w.heap.size, 2, none⟩ = some (.int .u64 n) := by rw [hb1.cell (p := ⟨w.heap.size, 2, none⟩) (by simp), World.cell?_alloc_at _ _ _ _ rfl]; rfl
  have c3 : w1.cell? ⟨w.heap.size, 3, none⟩ = some (.slice a len cap) := by rw [hb1.cell (p := ⟨w.heap.size, 3, none⟩) (by simp), World.cell?_alloc_at _ _ _ _ rfl]; rfl
  have hsz : w.heap.size ≤ w1.heap.size := hb.size
  have HB := hid hb
  clear hb hb1
  go_wp2_with fail
  refine (addEntryW w.heap.size _ 0 [] num kind n a len cap ys _ (World.ownsRow_nil _ _ _ _) hsz (fun w' h => reads_kept HR.out (HB.out.trans h)) HT.out hn0 hn1 (by omega)).mono ?_
  rintro e w3 ⟨v3, rfl, ho3, hg3⟩
  go_wp2
  go_ret2
  refine ⟨v3, rfl, by simpa using ho3, HB.out.trans (hg3.below hsz (fun k hk => by cases hk))⟩
theorem putEntryAny (num kind n : Int) (a : Option Addr) (len cap : Nat) (ys : List Int) (w : World) (hr : Reads w a len cap ys) (hn0 : 0 ≤ n) (hn1 : n < 18446744073709551616) (hm : 20 + len ≤ 140737488355328) :
    Calls Tryz.prog 159 #[.agg #[.int .i64 num, .int .i64 kind, .int .u64 n, .slice a len cap]] w fun e w' => ∃ b c, e = .returned (.tuple #[.slice b (pp num kind n ys).length c, .int .i64 (ef num kind n len)]) ∧ Reads w' b (pp num kind n ys).length c (pp num kind n ys) ∧ Below w.heap.size w w' := by
  have hlen := hr.length
  by_cases he : ef num kind n len = 0
  · refine (putEntryYes num kind n a len cap ys w hr he hn0 hn1 hm).mono ?_
    rintro e w' ⟨v, rfl, ho, hb⟩
    obtain ⟨b, c, rfl, hr2⟩ := own_reads ho (pe_bd (ef_ok he).1 hn0 hn1 (bd_mem hr.bd) (by omega))
    have e1 : pp num kind n ys = pe num kind n ys := by rw [pp, hlen, if_pos he]
    rw [e1, he]
    exact ⟨b, c, rfl, hr2, hb⟩
  · refine (putEntryNo num kind n a len cap w (Nat.le_trans hr.le hr.max) he).mono ?_
    rintro e w' ⟨rfl, hb⟩
    have e1 : pp num kind n ys = [] := by rw [pp, hlen, if_neg he]
    rw [e1]
    exact ⟨none, 0, rfl, reads_nil _, hb⟩
set_option maxHeartbeats 400000 in
theorem fineR (num kind n : Int) (a : Option Addr) (len cap : Nat) (w : World) :
    Calls Tryz.prog 101 #[.agg #[.int .i64 num, .int .i64 kind, .int .u64 n, .slice a len cap]] w fun e w' => e = .returned (.bool (fit kind n len)) ∧ Below w.heap.size w w' := by
  by_cases h2 : kind = 2
  · subst h2
    by_cases hz : n = 0
    · subst hz
      have HF : fit 2 0 len = true := by simp [fit]
      rw [HF]
      clear HF
      go_enter Tryz.func101, Tryz.ntmps101
      go_wp2
      go_ret
      exact ⟨rfl, below_alloc _⟩
    · have HF : fit 2 n len = false := by simp [fit, hz]
      have hzb : (n == 0) = false := by simp [hz]
      clear hz
      rw [HF]
      clear HF
      go_enter Tryz.func101, Tryz.ntmps101
      go_wp2
      go_ret
      exact ⟨rfl, below_alloc _⟩
  · have hk2 : (kind == 2) = false := by simp [h2]
    by_cases hl : len = 0
    · subst hl
      by_cases h5 : kind = 5
      · subst h5
        by_cases hn : n ≤ 4294967295
        · have HF : fit 5 n 0 = true := by simp [fit, hn]
          have hd : decide (n < 4294967296) = true := by simp; omega
          rw [HF]
          clear HF
          go_enter Tryz.func101, Tryz.ntmps101
          go_wp2
          go_ret
          exact ⟨rfl, below_alloc _⟩
        · have HF : fit 5 n 0 = false := by simp [fit, hn]
          have hd : decide (n < 4294967296) = false := by simp; omega
          rw [HF]
          clear HF
          go_enter Tryz.func101, Tryz.ntmps101
          go_wp2
          go_ret
          exact ⟨rfl, below_alloc _⟩
      · have HF : fit kind n 0 = true := by simp [fit, h2, h5]
        have hd : (kind != 5) = true := by simp [h5]
        clear h2 h5
        rw [HF]
        clear HF
        go_enter Tryz.func101, Tryz.ntmps101
        go_wp2
        go_ret
        exact ⟨rfl, below_alloc _⟩
    · have HF : fit kind n len = false := by simp [fit, h2, hl]
      have hd : ((len : Int) == 0) = false := by simp [hl]
      clear h2 hl
      rw [HF]
      clear HF
      go_enter Tryz.func101, Tryz.ntmps101
      go_wp2
      go_ret
      exact ⟨rfl, below_alloc _⟩
set_option maxHeartbeats 400000 in
theorem refPutEntryTag (num kind n : Int) (a : Option Addr) (len cap : Nat) (w : World) (ht : tf num kind ≠ 0) :
    Calls Tryz.prog 52 #[.agg #[.int .i64 num, .int .i64 kind, .int .u64 n, .slice a len cap]] w fun e w' => e = .returned (.tuple #[.slice none 0 0, .int .i64 (tf num kind)]) ∧ Below w.heap.size w w' := by
  have HT := hid ht
  have hne : (tf num kind != 0) = true := by simp [ht]
  clear ht
  go_enter Tryz.func52, Tryz.ntmps52
  go_wp2_with fail
  refine (refPutTagNo _ _ _ HT.out).mono ?_
  rintro e w1 ⟨rfl, rfl⟩
  go_wp2
  go_ret2
  exact ⟨rfl, below_alloc _⟩
set_option maxHeartbeats 1000000 in
theorem refPutEntryFine (num kind n : Int) (a : Option Addr) (len cap : Nat) (w : World) (ht : tf num kind = 0) (hf : fit kind n len = false) :
    Calls Tryz.prog 52 #[.agg #[.int .i64 num, .int .i64 kind, .int .u64 n, .slice a len cap]] w fun e w' => e = .returned (.tuple #[.slice none 0 0, .int .i64 7]) ∧ Below w.heap.size w w' := by
  have HT := hid ht
  have HF := hid hf
  clear ht hf
  go_enter Tryz.func52, Tryz.ntmps52
  go_wp2_with fail
  refine (refPutTagYes _ _ _ HT.out).mono ?_
  rintro e w1 ⟨v1, rfl, ho1, hb1⟩
  have hb := below_trans (below_alloc (.cells #[.int .i64 num, .int .i64 kind, .int .u64 n, .slice a len cap] 40)) hb1
  have c0 : w1.cell? ⟨w.heap.size, 0, none⟩ = some (.int .i64 num) := by rw [hb1.cell (p := ⟨w.heap.size, 0, none⟩) (by simp), World.cell?_alloc_at _ _ _ _ rfl]; rfl
  have c1 : w1.cell? ⟨w.heap.size, 1, none⟩ = some (.int .i64 kind) := by rw [hb1.cell (p := ⟨w.heap.size, 1, none⟩) (by simp), World.cell?_alloc_at _ _ _ _ rfl]; rfl
  have c2 : w1.cell? ⟨w.heap.size, 2, none⟩ = some (.int .u64 n) := by rw [hb1.cell (p := ⟨w.heap.size, 2, none⟩) (by simp), World.cell?_alloc_at _ _ _ _ rfl]; rfl
  have c3 : w1.cell? ⟨w.heap.size, 3, none⟩ = some (.slice a len cap) := by rw [hb1.cell (p := ⟨w.heap.size, 3, none⟩) (by simp), World.cell?_alloc_at _ _ _ _ rfl]; rfl
  clear hb1 ho1
  go_wp2_with fail
  refine (fineR _ _ _ _ _ _ _).mono ?_
  rw [HF.out]
  rintro e w2 ⟨rfl, hb2⟩
  go_wp2
  go_ret2
  exact ⟨rfl, below_trans hb hb2⟩
theorem own_cat3 {w : World} {base : Nat} {v : Value} {ps ys zs : List Int} (h : w.ownsRow base 5 1 v (ps.length + ys.length) (ps.map (Value.int .u8) ++ ys.map (Value.int .u8))) (e : zs = ps ++ ys) :
    w.ownsRow base 5 1 v zs.length (zs.map (Value.int .u8)) := by
  subst e
  simpa using h
set_option maxHeartbeats 1000000 in
theorem refPutEntryYes (num kind n : Int) (a : Option Addr) (len cap : Nat) (ys : List Int) (w : World) (hr : Reads w a len cap ys) (ht : tf num kind = 0) (hf : fit kind n len = true) (hn0 : 0 ≤ n) (hn1 : n < 18446744073709551616) (hm : 20 + len ≤ 140737488355328) :
    Calls Tryz.prog 52 #[.agg #[.int .i64 num, .int .i64 kind, .int .u64 n, .slice a len cap]] w fun e w' => ∃ v, e = .returned (.tuple #[v, .int .i64 0]) ∧ w'.ownsRow w.heap.size 5 1 v (pe num kind n ys).length ((pe num kind n ys).map (Value.int .u8)) ∧ Below w.heap.size w w' := by
  have HT := hid ht
  have HF := hid hf
  have HR := hid hr
  have hlen := hr.length
  have HL := hid hlen
  have hpl := (pv_len (num * 8 + kind)).2
  have hpn := (pv_len n).2
  have hpl2 := (pv_len (len : Int)).2
  have hk2 := okK_cases (tf_ok ht).2.2
  clear ht hf hr hlen
  go_enter Tryz.func52, Tryz.ntmps52
  go_wp2_with fail
  refine (refPutTagYes _ _ _ HT.out).mono ?_
  rintro e w1 ⟨v1, rfl, ho1, hb1⟩
  have hb := below_trans (below_alloc (.cells #[.int .i64 num, .int .i64 kind, .int .u64 n, .slice a len cap] 40)) hb1
  have c0 : w1.cell? ⟨w.heap.size, 0, none⟩ = some (.int .i64 num) := by rw [hb1.cell (p := ⟨w.heap.size, 0, none⟩) (by simp), World.cell?_alloc_at _ _ _ _ rfl]; rfl
  have c1 : w1.cell? ⟨w.heap.size, 1, none⟩ = some (.int .i64 kind) := by rw [hb1.cell (p := ⟨w.heap.size, 1, none⟩) (by simp), World.cell?_alloc_at _ _ _ _ rfl]; rfl
  have c2 : w1.cell? ⟨w.heap.size, 2, none⟩ = some (.int .u64 n) := by rw [hb1.cell (p := ⟨w.heap.size, 2, none⟩) (by simp), World.cell?_alloc_at _ _ _ _ rfl]; rfl
  have c3 : w1.cell? ⟨w.heap.size, 3, none⟩ = some (.slice a len cap) := by rw [hb1.cell (p := ⟨w.heap.size, 3, none⟩) (by simp), World.cell?_alloc_at _ _ _ _ rfl]; rfl
  have ho1' : w1.ownsRow (w.heap.size + 1) 5 1 v1 (pv (num * 8 + kind)).length ((pv (num * 8 + kind)).map (Value.int .u8)) := own_mono ho1 (by simp)
  have hs1 : w.heap.size + 1 ≤ w1.heap.size := by have := hb1.size; simpa using this
  have HO1 := hid ho1'
  clear hb1 ho1 ho1'
  go_wp2_with fail
  refine (fineR _ _ _ _ _ _ _).mono ?_
  rw [HF.out]
  rintro e w2 ⟨rfl, hb2⟩
  have d1 : w2.cell? ⟨w.heap.size, 1, none⟩ = some (.int .i64 kind) := by rw [hb2.cell (p := ⟨w.heap.size, 1, none⟩) (by show w.heap.size < _; omega)]; exact c1
  have d2 : w2.cell? ⟨w.heap.size, 2, none⟩ = some (.int .u64 n) := by rw [hb2.cell (p := ⟨w.heap.size, 2, none⟩) (by show w.heap.size < _; omega)]; exact c2
  have d3 : w2.cell? ⟨w.heap.size, 3, none⟩ = some (.slice a len cap) := by rw [hb2.cell (p := ⟨w.heap.size, 3, none⟩) (by show w.heap.size < _; omega)]; exact c3
  have hsz2 : w.heap.size + 1 ≤ w2.heap.size := Nat.le_trans hs1 hb2.size
  have HO := hid (own_kept HO1.out hb2)
  have HB := hid (below_trans hb hb2)
  clear c0 c1 c2 c3 hb hb2 HO1
  rcases hk2 with rfl | rfl | rfl | rfl
  · go_wp2_with fail
    refine (putvRr n _ hn0 hn1).mono ?_
    rintro e w3 ⟨b3, k3, rfl, hr3, hb3⟩
    obtain ⟨v', w4, hr, hown', hg'⟩ := append_bytes (w.heap.size + 1) v1 _ _ w3 b3 _ k3 _ (own_kept HO.out hb3) (Nat.le_trans hsz2 hb3.size) hr3 (by omega)
    have HR4 := hid hr
    have HB3 := hid hb3
    clear hr hr3 hb3
    go_wp2_with (first | (at_builtin; refine wpList_append_ran rfl _ _ 23 23 rfl rfl _ _ v' w4 rfl rfl HR4.out ?_))
    go_ret2
    exact ⟨v', rfl, own_mono (own_cat3 hown' rfl) (by omega), HB.out.trans ((HB3.out.mono (by omega)).trans (hg'.below (by have := HB3.out.size; omega) (fun k hk => by have := (HO.out.lt k hk).1; omega)))⟩
  · go_wp2_with fail
    refine (putWordRr n 8 _ (by omega)).mono ?_
    rintro e w3 ⟨b3, k3, rfl, hr3, hb3⟩
    obtain ⟨v', w4, hr, hown', hg'⟩ := append_bytes (w.heap.size + 1) v1 _ _ w3 b3 _ k3 _ (own_kept HO.out hb3) (Nat.le_trans hsz2 hb3.size) hr3 (by rw [pw_length]; omega)
    have HR4 := hid hr
    have HB3 := hid hb3
    clear hr hr3 hb3
    go_wp2_with (first | (at_builtin; refine wpList_append_ran rfl _ _ 23 23 rfl rfl _ _ v' w4 rfl rfl HR4.out ?_))
    go_ret2
    exact ⟨v', rfl, own_mono (own_cat3 hown' rfl) (by omega), HB.out.trans ((HB3.out.mono (by omega)).trans (hg'.below (by have := HB3.out.size; omega) (fun k hk => by have := (HO.out.lt k hk).1; omega)))⟩
  · go_wp2_with fail
    refine (putChunkRr a len cap ys _ (reads_kept HR.out HB.out) (by omega)).mono ?_
    rintro e w3 ⟨b3, k3, rfl, hr3, hb3⟩
    obtain ⟨v', w4, hr, hown', hg'⟩ := append_bytes (w.heap.size + 1) v1 _ _ w3 b3 _ k3 _ (own_kept HO.out hb3) (Nat.le_trans hsz2 hb3.size) hr3 (by have := HL.out; rw [pc, List.length_append, this]; omega)
    have HR4 := hid hr
    have HB3 := hid hb3
    clear hr hr3 hb3
    go_wp2_with (first | (at_builtin; refine wpList_append_ran rfl _ _ 23 23 rfl rfl _ _ v' w4 rfl rfl HR4.out ?_))
    go_ret2
    exact ⟨v', rfl, own_mono (own_cat3 hown' rfl) (by omega), HB.out.trans ((HB3.out.mono (by omega)).trans (hg'.below (by have := HB3.out.size; omega) (fun k hk => by have := (HO.out.lt k hk).1; omega)))⟩
  · go_wp2_with fail
    refine (putWordRr n 4 _ (by omega)).mono ?_
    rintro e w3 ⟨b3, k3, rfl, hr3, hb3⟩
    obtain ⟨v', w4, hr, hown', hg'⟩ := append_bytes (w.heap.size + 1) v1 _ _ w3 b3 _ k3 _ (own_kept HO.out hb3) (Nat.le_trans hsz2 hb3.size) hr3 (by rw [pw_length]; omega)
    have HR4 := hid hr
    have HB3 := hid hb3
    clear hr hr3 hb3
    go_wp2_with (first | (at_builtin; refine wpList_append_ran rfl _ _ 23 23 rfl rfl _ _ v' w4 rfl rfl HR4.out ?_))
    go_ret2
    exact ⟨v', rfl, own_mono (own_cat3 hown' rfl) (by omega), HB.out.trans ((HB3.out.mono (by omega)).trans (hg'.below (by have := HB3.out.size; omega) (fun k hk => by have := (HO.out.lt k hk).1; omega)))⟩
theorem refPutEntryAny (num kind n : Int) (a : Option Addr) (len cap : Nat) (ys : List Int) (w : World) (hr : Reads w a len cap ys) (hn0 : 0 ≤ n) (hn1 : n < 18446744073709551616) (hm : 20 + len ≤ 140737488355328) :
    Calls Tryz.prog 52 #[.agg #[.int .i64 num, .int .i64 kind, .int .u64 n, .slice a len cap]] w fun e w' => ∃ b c, e = .returned (.tuple #[.slice b (pp num kind n ys).length c, .int .i64 (ef num kind n len)]) ∧ Reads w' b (pp num kind n ys).length c (pp num kind n ys) ∧ Below w.heap.size w w' := by
  have hlen := hr.length
  by_cases ht : tf num kind = 0
  · cases hf : fit kind n len with
    | true =>
      have he : ef num kind n len = 0 := by rw [ef_fit ht, if_pos hf]
      refine (refPutEntryYes num kind n a len cap ys w hr ht hf hn0 hn1 hm).mono ?_
      rintro e w' ⟨v, rfl, ho, hb⟩
      obtain ⟨b, c, rfl, hr2⟩ := own_reads ho (pe_bd ht hn0 hn1 (bd_mem hr.bd) (by omega))
      have e1 : pp num kind n ys = pe num kind n ys := by rw [pp, hlen, if_pos he]
      rw [e1, he]
      exact ⟨b, c, rfl, hr2, hb⟩
    | false =>
      have he : ef num kind n len = 7 := by rw [ef_fit ht, if_neg (by simp [hf])]
      refine (refPutEntryFine num kind n a len cap w ht hf).mono ?_
      rintro e w' ⟨rfl, hb⟩
      have e1 : pp num kind n ys = [] := by rw [pp, hlen, if_neg (by rw [he]; decide)]
      rw [e1, he]
      exact ⟨none, 0, rfl, reads_nil _, hb⟩
  · have he : ef num kind n len = tf num kind := ef_tf ht
    refine (refPutEntryTag num kind n a len cap w ht).mono ?_
    rintro e w' ⟨rfl, hb⟩
    have e1 : pp num kind n ys = [] := by rw [pp, hlen, if_neg (by rw [he]; exact ht)]
    rw [e1, he]
    exact ⟨none, 0, rfl, reads_nil _, hb⟩
end Go.Proofs.YtgephggcgopfgaaGreatDoor.W
namespace Go.Proofs.YtgephggcgopfgaaGreatDoor
open Go.RowKit
set_option maxRecDepth 1000000
set_option linter.unusedVariables false
set_option linter.unusedSimpArgs false
set_option maxHeartbeats 1000000
def entB (x : CE) : Bool := W.ef x.num x.kind x.n x.b.length == 0
theorem Reads.old {w : World} {a : Option Addr} {len cap : Nat} {xs : List Int} (h : Reads w a len cap xs) : W.Reads w a len cap xs := ⟨h.length, h.le, h.max, h.bd, h.cells⟩
theorem isEntryM (w : World) (Z : Nat → Prop) (cs : List Value) (x : CE) (h : EntE w Z cs x) : Calls Tryz.prog 132 #[.agg cs.toArray] w fun e w' => e = .returned (.bool (entB x)) ∧ Below w.heap.size w w' := by
  obtain ⟨ba, bc, rfl, g1, l1, -, -, hu⟩ := ent_open h
  have HP := hid fun W1 (hW : Below w.heap.size w W1) => W.putEntryAny x.num x.kind x.n ba x.b.length bc x.b W1 (g1.kept hW).reads.old hu.1 hu.2 (by omega)
  have HX : Hid (entB x = (W.ef x.num x.kind x.n x.b.length == 0)) := hid rfl
  clear h g1 hu
  generalize entB x = res at *
  generalize W.ef x.num x.kind x.n x.b.length = er at *
  go_enter Tryz.func132, Tryz.ntmps132
  go_wp2_with fail
  refine (HP.out _ (by exact blBy)).mono ?_
  rintro e w1 ⟨b, c, rfl, -, hb1⟩
  have hbz : Hid (Below w.heap.size w w1) := hid (bl_then (by exact blBy) hb1)
  clear hb1
  go_wp2
  go_ret
  exact ⟨ret_bool HX.out.symm, hbz.out⟩
theorem holdT (w : World) (l : List TV) (ta : Option Addr) (tc : Nat) (h : TbR w (.slice ta l.length tc) l) (hg : goodB l = true) (x : TV) (hx : x ∈ l) (Z : Nat → Prop) (d : Nat) (cs : List Value) (m : CM) (hm : MsgE w Z (d + 1) cs m) : Calls Tryz.prog 92 #[.agg #[.slice ta l.length tc], .agg (cTV x).toArray, .agg cs.toArray] w fun e w' => e = .returned (.bool (holdB l entB x m)) ∧ Below w.heap.size w w' :=
  holdM w l ta tc h hg x hx (good_ones hg hx) entB Z (fun W hW cs y hy => isEntryM W Z cs y hy) d cs m hm
end Go.Proofs.YtgephggcgopfgaaGreatDoor
namespace Go.Proofs.YtgephggcgopfgaaGreatDoor
open Go.RowKit
set_option maxRecDepth 1000000
set_option linter.unusedVariables false
set_option linter.unusedSimpArgs false
set_option maxHeartbeats 1000000
def blwB (l : List TV) (x : TV) (f : CF CM) : TV := (l[(ownF x.t.fs f.num).ref.toNat]?).getD x
def keptB (l : List TV) (d : Nat) (x : TV) (m : CM) : Bool := walkB (holdB l entB) (blwB l) d x m
theorem ownF_hasF {fs : List FT} {n : Int} (h : hasF fs n = true) : ownF fs n ∈ fs ∧ (ownF fs n).num = n := by
  unfold hasF at h
  unfold ownF
  cases hq : fs.find? (fun o => o.num == n) with
  | none => rw [hq] at h; cases h
  | some o => exact ⟨List.mem_of_find?_eq_some hq, by have := List.find?_some hq; simpa using this⟩
theorem holdB_has {l : List TV} {ent : CE → Bool} {x : TV} {m : CM} (h : holdB l ent x m = true) {f : CF CM} (hf : f ∈ m.fs) : hasF x.t.fs f.num = true := by
  unfold holdB at h
  simp only [Bool.and_eq_true, List.all_eq_true] at h
  have := h.2.1 f hf
  unfold typB8 at this
  simp only [Bool.and_eq_true] at this
  exact this.1
theorem blwB_at {l : List TV} (hg : goodB l = true) {x : TV} (hx : x ∈ l) {f : CF CM} (hf : hasF x.t.fs f.num = true) : l[(ownF x.t.fs f.num).ref.toNat]? = some (blwB l x f) := by
  obtain ⟨h1, h2⟩ := ownF_hasF hf
  obtain ⟨r0, r1⟩ := good_refs hg hx h1
  unfold blwB
  rw [List.getElem?_eq_getElem r1]
  rfl
theorem blwB_in {l : List TV} (hg : goodB l = true) {x : TV} (hx : x ∈ l) {f : CF CM} (hf : hasF x.t.fs f.num = true) : blwB l x f ∈ l := List.mem_of_getElem? (blwB_at hg hx hf)
theorem cfHold (args : Array Value) (W : World) : (callFunc 92 args).run Tryz.prog W = .ok (.enter 92 args) W := cf_enter Tryz.func92 (by kernel_rfl) (by kernel_rfl) args W
theorem cfBelow (args : Array Value) (W : World) : (callFunc 39 args).run Tryz.prog W = .ok (.enter 39 args) W := cf_enter Tryz.func39 (by kernel_rfl) (by kernel_rfl) args W
theorem wkHold (l : List TV) (ta : Option Addr) (tc : Nat) (hg : goodB l = true) (hsh : ∀ x ∈ l, ShT x) (Z : Nat → Prop) : WkH Z (fun W => TbR W (.slice ta l.length tc) l) (· ∈ l) (fun _ _ _ => True) (holdB l entB) (blwB l) 92 39 #[.agg #[.slice ta l.length tc]] #[.agg #[.slice ta l.length tc]] where
  kept h hb := h.kept hb
  sh := hsh
  eh := cfHold
  eb := cfBelow
  h W x d cs m hW hx _ hm := by
    cases d with
    | zero => exact hm.elim
    | succ d => exact holdT W l ta tc hW hg x hx Z d cs m hm
  b W x d cs m f hW hx _ hh hf hfe := by
    have h1 := holdB_has hh hf
    exact belowT W l ta tc hW hg x hx Z d cs f hfe _ (ownF_hasF h1).1 (ownF_hasF h1).2 _ (blwB_at hg hx h1)
  i x d m f hx _ hh hf := blwB_in hg hx (holdB_has hh hf)
  q _ _ _ _ _ _ _ _ _ _ := trivial
theorem areKeptT (w : World) (l : List TV) (ta : Option Addr) (tc : Nat) (h : TbR w (.slice ta l.length tc) l) (hg : goodB l = true) (x : TV) (hx : x ∈ l) (Z : Nat → Prop) (d : Nat) (cs : List Value) (m : CM) (hm : MsgE w Z d cs m) : Calls Tryz.prog 44 #[.agg #[.slice ta l.length tc], .agg (cTV x).toArray, .agg cs.toArray] w fun e w' => e = .returned (.bool (keptB l d x m)) ∧ Below w.heap.size w w' := by
  have HW := hid fun W (hW : Below w.heap.size w W) => walkT (wkHold l ta tc hg (fun x hx => shT_of (h.ty x hx)) Z) d W x cs m (h.kept hW) hx trivial (hm.kept hW)
  obtain ⟨ta1, tc1, ta2, tc2, ta3, tc3, ta4, tc4, e1, e2, e3, e4⟩ := shT_of (h.ty x hx)
  have ec : cTV x = [.string (strOfNums x.t.name), .bool x.t.enum, .slice ta1 x.t.fs.length tc1, .slice ta2 x.t.os.length tc2, .slice ta3 x.t.ss.length tc3, .slice ta4 x.t.rs.length tc4] := by unfold cTV; rw [e1, e2, e3, e4]
  obtain ⟨fa, fc, ua, uc, rfl, -⟩ := msg_openD hm
  have HX : Hid (walkB (holdB l entB) (blwB l) d x m = keptB l d x m) := hid rfl
  rw [ec] at HW ⊢
  clear h hg hx hm e1 e2 e3 e4 ec
  generalize keptB l d x m = res at *
  go_enter Tryz.func44, Tryz.ntmps44
  go_wp2_with fail
  refine (HW.out _ (by exact blBy)).mono ?_
  rintro e w1 ⟨rfl, hb1⟩
  have HB1 : Hid (Below w.heap.size w w1) := hid (bl_then (by exact blBy) hb1)
  clear hb1 HW
  go_wp2
  go_ret
  exact ⟨ret_bool HX.out, HB1.out⟩
theorem typedT (w : World) (l : List TV) (ta : Option Addr) (tc : Nat) (h : TbR w (.slice ta l.length tc) l) (hk : ∀ x ∈ l, OkV x) (mx : Int) (hm0 : w.cell? ⟨0, 0, none⟩ = some (.int .i64 mx)) (k : Nat) (hkl : k < l.length) (hg : goodB l = true) (he : l[k].t.enum = false) (Z : Nat → Prop) (d : Nat) (cs : List Value) (m : CM) (hm : MsgE w Z d cs m) : Calls Tryz.prog 19 #[.agg #[.slice ta l.length tc], .int .i64 (k : Int), .agg cs.toArray] w fun e w' => e = .returned (.tuple #[.bool (keptB l d l[k] m), .int .i64 0]) ∧ Below w.heap.size w w' := by
  have HA := hid fun W (hW : Below w.heap.size w W) => msgAtOk W l ta tc (h.kept hW) hk mx (cell_below hm0 hW) k hkl hg he
  have HK := hid fun W (hW : Below w.heap.size w W) => areKeptT W l ta tc (h.kept hW) hg l[k] (List.getElem_mem hkl) Z d cs m (hm.kept hW)
  obtain ⟨ta1, tc1, ta2, tc2, ta3, tc3, ta4, tc4, e1, e2, e3, e4⟩ := shT_of (h.ty l[k] (List.getElem_mem hkl))
  have ec : cTV l[k] = [.string (strOfNums l[k].t.name), .bool false, .slice ta1 l[k].t.fs.length tc1, .slice ta2 l[k].t.os.length tc2, .slice ta3 l[k].t.ss.length tc3, .slice ta4 l[k].t.rs.length tc4] := by unfold cTV; rw [e1, e2, e3, e4, he]
  obtain ⟨fa, fc, ua, uc, rfl, -⟩ := msg_openD hm
  rw [ec] at HK
  rw [e1, e2, e3, e4] at HA
  clear h hg hm e1 e2 e3 e4 ec hm0 hk he
  generalize keptB l d l[k] m = res at *
  generalize l[k] = x at *
  go_enter Tryz.func19, Tryz.ntmps19
  go_wp2_with fail
  refine (HA.out _ (by exact blBy)).mono ?_
  rintro e w1 ⟨rfl, hb1⟩
  have HB1 : Hid (Below w.heap.size w w1) := hid (bl_then (by exact blBy) hb1)
  have Bt : Blk w1 w.heap.size 46 #[.slice ta l.length tc] := ((Blk.new _ _ _).kept (below_alloc _)).kept hb1
  have Bm : Blk w1 (w.heap.size + 1) 35 #[.slice fa m.fs.length fc, .slice ua m.us.length uc] := (Blk.newAt (by simp)).kept hb1
  have xt := Bt.cellF
  have zt := Bt.lt
  have xm := Bm.cellF
  have zm := Bm.lt
  clear hb1 HA
  go_wp2_with fail
  refine (HK.out _ (by have := HB1.out; exact blBy)).mono ?_
  rintro e w2 ⟨rfl, hb2⟩
  have HB2 : Hid (Below w.heap.size w w2) := hid (bl_then (by have := HB1.out; exact blBy) hb2)
  clear hb2 HK
  go_wp2
  exact bodyPost_ret (v := .tuple #[.bool res, .int .i64 0]) (by simp [results, Tryz.results19, go_sem]) rfl ⟨rfl, by have := HB2.out; exact blBy⟩
end Go.Proofs.YtgephggcgopfgaaGreatDoor
namespace Go.Proofs.YtgephggcgopfgaaGreatDoor
open Go.RowKit
set_option maxRecDepth 1000000
set_option linter.unusedVariables false
set_option linter.unusedSimpArgs false
set_option maxHeartbeats 1000000
end Go.Proofs.YtgephggcgopfgaaGreatDoor
namespace Go.Proofs.YtgephggcgopfgaaGreatDoor
open Go.RowKit
set_option maxRecDepth 1000000
set_option linter.unusedVariables false
set_option linter.unusedSimpArgs false
set_option maxHeartbeats 1000000
end Go.Proofs.YtgephggcgopfgaaGreatDoor
namespace Go.Proofs.YtgephggcgopfgaaGreatDoor
open Go.RowKit
set_option maxRecDepth 1000000
set_option linter.unusedVariables false
set_option linter.unusedSimpArgs false
set_option maxHeartbeats 2000000
def stayO (a b : FT) (n k : Int) : Bool := (k != n) && !((a.lab == 4) && ((b.lab == 4) && (a.one == b.one)))
def stayB (fs : List FT) (n : Int) (f : CF CM) : Bool := stayO (ownF fs n) (ownF fs f.num) n f.num
theorem stayFn (w : World) (x : TV) (hx : TyR w x) (hr : Rise x.t.fs) (hl : x.t.fs.length ≤ 128) (Z : Nat → Prop) (d : Nat) (cs : List Value) (f : CF CM) (hf : FldE w Z (MsgE w Z d) cs f) (p q r : Nat) (n : Int) (fk fv : Value) (hp : Blk w p 71 (cTV x).toArray) (hq : Blk w q 82 #[.string (strOfNums (ownF x.t.fs n).name), .int .i64 (ownF x.t.fs n).num, .int .i64 (ownF x.t.fs n).kind, .int .i64 (ownF x.t.fs n).ref, .int .i64 (ownF x.t.fs n).lab, .int .i64 (ownF x.t.fs n).one, .int .i64 (ownF x.t.fs n).key]) (hw : Blk w r 29 #[.int .i64 n, fk, fv]) : Calls Tryz.prog 113 #[.agg cs.toArray, .pointer (some ⟨p, 0, none⟩), .pointer (some ⟨q, 0, none⟩), .pointer (some ⟨r, 0, none⟩)] w fun e w' => e = .returned (.bool (stayB x.t.fs n f)) ∧ Below w.heap.size w w' := by
  obtain ⟨ta1, tc1, ta2, tc2, ta3, tc3, ta4, tc4, e1, e2, e3, e4⟩ := shT_of hx
  have ecx : cTV x = [.string (strOfNums x.t.name), .bool x.t.enum, .slice ta1 x.t.fs.length tc1, .slice ta2 x.t.os.length tc2, .slice ta3 x.t.ss.length tc3, .slice ta4 x.t.rs.length tc4] := by unfold cTV; rw [e1, e2, e3, e4]
  have HFO := hid fun W (hW : Below w.heap.size w W) => findT x.t.fs f.num W ta1 tc1 (by rw [← e1]; exact (hx.kept hW).f) hr hl
  obtain ⟨ka, kc, va, vc, rfl, -⟩ := fld_open hf
  rw [ecx] at hp
  have HX : Hid (stayB x.t.fs n f = stayO (ownF x.t.fs n) (ownF x.t.fs f.num) n f.num) := hid rfl
  generalize stayB x.t.fs n f = res at *
  generalize ownF x.t.fs f.num = b at *
  generalize hasF x.t.fs f.num = ok at *
  generalize ownF x.t.fs n = a at *
  have Bq := hid hq
  have Br := hid hw
  have Bp := hid hp
  have xp := hp.cellF
  have zp := hp.lt
  clear hx hf hr hl e1 e2 e3 e4 ecx hp hq hw
  unfold stayO at HX
  go_enter Tryz.func113, Tryz.ntmps113
  go_wp2_with fail
  refine (HFO.out _ (by exact blBy)).mono ?_
  rintro e w1 ⟨rfl, hb1⟩
  unfold tFT
  have Bf : Blk w1 w.heap.size 29 #[.int .i64 f.num, .slice ka f.ks.length kc, .slice va f.vs.length vc] := (Blk.new _ _ _).kept hb1
  have HB : Hid (Below w.heap.size w w1) := hid (bl_then (below_alloc _) hb1)
  have Bq1 := Bq.out.kept HB.out
  have Br1 := Br.out.kept HB.out
  have xq := Bq1.cellF
  have zq := Bq1.lt
  have xr := Br1.cellF
  have zr := Br1.lt
  have xf := Bf.cellF
  have zf := Bf.lt
  clear hb1 xp zp Bf Bq1 Br1
  cases e1 : (f.num != n) with
  | false =>
    have HF : Hid (res = false) := hid (by rw [HX.out, e1]; rfl)
    have e1' : f.num = n := by simpa using e1
    cases e2 : (a.lab == 4) with
    | false =>
      go_wp2
      go_ret
      exact ⟨ret_bool HF.out.symm, by have := HB.out; exact blBy⟩
    | true =>
      cases e3 : (b.lab == 4) with
      | false =>
        go_wp2
        go_ret
        exact ⟨ret_bool HF.out.symm, by have := HB.out; exact blBy⟩
      | true =>
        go_wp2
        go_ret
        exact ⟨ret_bool HF.out.symm, by have := HB.out; exact blBy⟩
  | true =>
    cases e2 : (a.lab == 4) with
    | false =>
      have HF : Hid (res = true) := hid (by rw [HX.out, e1, e2]; rfl)
      go_wp2
      go_ret
      exact ⟨ret_bool HF.out.symm, by have := HB.out; exact blBy⟩
    | true =>
      cases e3 : (b.lab == 4) with
      | false =>
        have HF : Hid (res = true) := hid (by rw [HX.out, e1, e2, e3]; rfl)
        go_wp2
        go_ret
        exact ⟨ret_bool HF.out.symm, by have := HB.out; exact blBy⟩
      | true =>
        cases e4 : (a.one == b.one) with
        | false =>
          have HF : Hid (res = true) := hid (by rw [HX.out, e1, e2, e3, e4]; rfl)
          go_wp2
          go_ret
          exact ⟨ret_bool HF.out.symm, by have := HB.out; exact blBy⟩
        | true =>
          have HF : Hid (res = false) := hid (by rw [HX.out, e1, e2, e3, e4]; rfl)
          go_wp2
          go_ret
          exact ⟨ret_bool HF.out.symm, by have := HB.out; exact blBy⟩
def laterB (n : Int) (f : CF CM) : Bool := decide (n < f.num)
theorem laterFn (w : World) (Z : Nat → Prop) (d : Nat) (cs : List Value) (f : CF CM) (hf : FldE w Z (MsgE w Z d) cs f) (r : Nat) (n : Int) (fk fv : Value) (hw : Blk w r 29 #[.int .i64 n, fk, fv]) : Calls Tryz.prog 114 #[.agg cs.toArray, .pointer (some ⟨r, 0, none⟩)] w fun e w' => e = .returned (.bool (laterB n f)) ∧ Below w.heap.size w w' := by
  obtain ⟨ka, kc, va, vc, rfl, -⟩ := fld_open hf
  have xr := hw.cellF
  have zr := hw.lt
  have HX : Hid (laterB n f = decide (n < f.num)) := hid rfl
  generalize laterB n f = res at *
  clear hf hw
  go_enter Tryz.func114, Tryz.ntmps114
  go_wp2
  all_goals (go_ret; exact ⟨ret_bool (by rw [HX.out]), by exact blBy⟩)
theorem cfStay (args : Array Value) (W : World) : (callFunc 113 args).run Tryz.prog W = .ok (.enter 113 args) W := cf_enter Tryz.func113 (by kernel_rfl) (by kernel_rfl) args W
theorem cfLater (args : Array Value) (W : World) : (callFunc 114 args).run Tryz.prog W = .ok (.enter 114 args) W := cf_enter Tryz.func114 (by kernel_rfl) (by kernel_rfl) args W
end Go.Proofs.YtgephggcgopfgaaGreatDoor
