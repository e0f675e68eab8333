/-
  Walks over PutEntry, the program's and the document's.
  Entries that can be written; what a typed message holds.
  Both answers of a value are one.
  Whether a message is typed, with all messages within.
  The document's Typed: what it asks, field by field; and that this is what the program asks.
-/
import Derived.Test.YtnfdlnelfnigdaaGreatDoorCBG
import Derived.Test.YtnfdlnelfnigdaaGreatDoorCCJ
import Derived.Test.YtnfdlnelfnigdaaGreatDoorCAQ
namespace Go.Proofs.YtnfdlnelfnigdaaGreatDoor.W
open Go.RowKit
set_option maxRecDepth 1000000
/-- The bytes of an entry; none where it has a fault. -/
def pp (num kind n : Int) (ys : List Int) : List Int := if ef num kind n ys.length = 0 then pe num kind n ys else []
set_option maxHeartbeats 400000 in
theorem putEntryNo (num kind n : Int) (a : Option Addr) (len cap : Nat) (w : World) (hl : len ≤ 9223372036854775807) (he : ef num kind n len ≠ 0) :
    Calls Tryz.prog 148 #[.agg #[.int .i64 num, .int .i64 kind, .int .u64 n, .slice a len cap]] w fun e w' => e = .returned (.tuple #[.slice none 0 0, .int .i64 (ef num kind n len)]) ∧ Below w.heap.size w w' := by
  have hne : (ef num kind n len != 0) = true := by simp [he]
  clear he
  go_enter Tryz.func148, Tryz.ntmps148
  go_wp2_with fail
  refine (entryFaultW _ _ _ _ _ _ _ hl).mono ?_
  rintro e w1 ⟨rfl, hb1⟩
  go_wp2
  go_ret2
  exact ⟨rfl, below_trans (below_alloc _) hb1⟩
set_option maxHeartbeats 400000 in
theorem putEntryYes (num kind n : Int) (a : Option Addr) (len cap : Nat) (ys : List Int) (w : World) (hr : Reads w a len cap ys) (he : ef num kind n len = 0) (hn0 : 0 ≤ n) (hn1 : n < 18446744073709551616) (hm : 20 + len ≤ 140737488355328) :
    Calls Tryz.prog 148 #[.agg #[.int .i64 num, .int .i64 kind, .int .u64 n, .slice a len cap]] w fun e w' => ∃ v, e = .returned (.tuple #[v, .int .i64 0]) ∧ w'.ownsRow w.heap.size 5 1 v (pe num kind n ys).length ((pe num kind n ys).map (Value.int .u8)) ∧ Below w.heap.size w w' := by
  have HE := hid he
  have HT := hid (ef_ok he).1
  have HR := hid hr
  have hl : len ≤ 9223372036854775807 := Nat.le_trans hr.le hr.max
  clear he hr
  go_enter Tryz.func148, Tryz.ntmps148
  go_wp2_with fail
  refine (entryFaultW _ _ _ _ _ _ _ hl).mono ?_
  rw [HE.out]
  rintro e w1 ⟨rfl, hb1⟩
  have hb := below_trans (below_alloc (.cells #[.int .i64 num, .int .i64 kind, .int .u64 n, .slice a len cap] 40)) hb1
  have c0 : w1.cell? ⟨w.heap.size, 0, none⟩ = some (.int .i64 num) := by rw [hb1.cell (p := ⟨w.heap.size, 0, none⟩) (by simp), World.cell?_alloc_at _ _ _ _ rfl]; rfl
  have c1 : w1.cell? ⟨w.heap.size, 1, none⟩ = some (.int .i64 kind) := by rw [hb1.cell (p := ⟨w.heap.size, 1, none⟩) (by simp), World.cell?_alloc_at _ _ _ _ rfl]; rfl
  have c2 : w1.cell? ⟨w.heap.size, 2, none⟩ = some (.int .u64 n) := by rw [hb1.cell (p := ⟨w.heap.size, 2, none⟩) (by simp), World.cell?_alloc_at _ _ _ _ rfl]; rfl
  have c3 : w1.cell? ⟨w.heap.size, 3, none⟩ = some (.slice a len cap) := by rw [hb1.cell (p := ⟨w.heap.size, 3, none⟩) (by simp), World.cell?_alloc_at _ _ _ _ rfl]; rfl
  have hsz : w.heap.size ≤ w1.heap.size := hb.size
  have HB := hid hb
  clear hb hb1
  go_wp2_with fail
  refine (addEntryW w.heap.size _ 0 [] num kind n a len cap ys _ (World.ownsRow_nil _ _ _ _) hsz (fun w' h => reads_kept HR.out (HB.out.trans h)) HT.out hn0 hn1 (by omega)).mono ?_
  rintro e w3 ⟨v3, rfl, ho3, hg3⟩
  go_wp2
  go_ret2
  refine ⟨v3, rfl, by simpa using ho3, HB.out.trans (hg3.below hsz (fun k hk => by cases hk))⟩
/-- PutEntry's answer as a slice that can be read. -/
theorem putEntryAny (num kind n : Int) (a : Option Addr) (len cap : Nat) (ys : List Int) (w : World) (hr : Reads w a len cap ys) (hn0 : 0 ≤ n) (hn1 : n < 18446744073709551616) (hm : 20 + len ≤ 140737488355328) :
    Calls Tryz.prog 148 #[.agg #[.int .i64 num, .int .i64 kind, .int .u64 n, .slice a len cap]] w fun e w' => ∃ b c, e = .returned (.tuple #[.slice b (pp num kind n ys).length c, .int .i64 (ef num kind n len)]) ∧ Reads w' b (pp num kind n ys).length c (pp num kind n ys) ∧ Below w.heap.size w w' := by
  have hlen := hr.length
  by_cases he : ef num kind n len = 0
  · refine (putEntryYes num kind n a len cap ys w hr he hn0 hn1 hm).mono ?_
    rintro e w' ⟨v, rfl, ho, hb⟩
    obtain ⟨b, c, rfl, hr2⟩ := own_reads ho (pe_bd (ef_ok he).1 hn0 hn1 (bd_mem hr.bd) (by omega))
    have e1 : pp num kind n ys = pe num kind n ys := by rw [pp, hlen, if_pos he]
    rw [e1, he]
    exact ⟨b, c, rfl, hr2, hb⟩
  · refine (putEntryNo num kind n a len cap w (Nat.le_trans hr.le hr.max) he).mono ?_
    rintro e w' ⟨rfl, hb⟩
    have e1 : pp num kind n ys = [] := by rw [pp, hlen, if_neg he]
    rw [e1]
    exact ⟨none, 0, rfl, reads_nil _, hb⟩
set_option maxHeartbeats 400000 in
theorem fineR (num kind n : Int) (a : Option Addr) (len cap : Nat) (w : World) :
    Calls Tryz.prog 86 #[.agg #[.int .i64 num, .int .i64 kind, .int .u64 n, .slice a len cap]] w fun e w' => e = .returned (.bool (fit kind n len)) ∧ Below w.heap.size w w' := by
  by_cases h2 : kind = 2
  · subst h2
    by_cases hz : n = 0
    · subst hz
      have HF : fit 2 0 len = true := by simp [fit]
      rw [HF]
      clear HF
      go_enter Tryz.func86, Tryz.ntmps86
      go_wp2
      go_ret
      exact ⟨rfl, below_alloc _⟩
    · have HF : fit 2 n len = false := by simp [fit, hz]
      have hzb : (n == 0) = false := by simp [hz]
      clear hz
      rw [HF]
      clear HF
      go_enter Tryz.func86, Tryz.ntmps86
      go_wp2
      go_ret
      exact ⟨rfl, below_alloc _⟩
  · have hk2 : (kind == 2) = false := by simp [h2]
    by_cases hl : len = 0
    · subst hl
      by_cases h5 : kind = 5
      · subst h5
        by_cases hn : n ≤ 4294967295
        · have HF : fit 5 n 0 = true := by simp [fit, hn]
          have hd : decide (n < 4294967296) = true := by simp; omega
          rw [HF]
          clear HF
          go_enter Tryz.func86, Tryz.ntmps86
          go_wp2
          go_ret
          exact ⟨rfl, below_alloc _⟩
        · have HF : fit 5 n 0 = false := by simp [fit, hn]
          have hd : decide (n < 4294967296) = false := by simp; omega
          rw [HF]
          clear HF
          go_enter Tryz.func86, Tryz.ntmps86
          go_wp2
          go_ret
          exact ⟨rfl, below_alloc _⟩
      · have HF : fit kind n 0 = true := by simp [fit, h2, h5]
        have hd : (kind != 5) = true := by simp [h5]
        clear h2 h5
        rw [HF]
        clear HF
        go_enter Tryz.func86, Tryz.ntmps86
        go_wp2
        go_ret
        exact ⟨rfl, below_alloc _⟩
    · have HF : fit kind n len = false := by simp [fit, h2, hl]
      have hd : ((len : Int) == 0) = false := by simp [hl]
      clear h2 hl
      rw [HF]
      clear HF
      go_enter Tryz.func86, Tryz.ntmps86
      go_wp2
      go_ret
      exact ⟨rfl, below_alloc _⟩
set_option maxHeartbeats 400000 in
theorem refPutEntryTag (num kind n : Int) (a : Option Addr) (len cap : Nat) (w : World) (ht : tf num kind ≠ 0) :
    Calls Tryz.prog 44 #[.agg #[.int .i64 num, .int .i64 kind, .int .u64 n, .slice a len cap]] w fun e w' => e = .returned (.tuple #[.slice none 0 0, .int .i64 (tf num kind)]) ∧ Below w.heap.size w w' := by
  have HT := hid ht
  have hne : (tf num kind != 0) = true := by simp [ht]
  clear ht
  go_enter Tryz.func44, Tryz.ntmps44
  go_wp2_with fail
  refine (refPutTagNo _ _ _ HT.out).mono ?_
  rintro e w1 ⟨rfl, rfl⟩
  go_wp2
  go_ret2
  exact ⟨rfl, below_alloc _⟩
set_option maxHeartbeats 1000000 in
theorem refPutEntryFine (num kind n : Int) (a : Option Addr) (len cap : Nat) (w : World) (ht : tf num kind = 0) (hf : fit kind n len = false) :
    Calls Tryz.prog 44 #[.agg #[.int .i64 num, .int .i64 kind, .int .u64 n, .slice a len cap]] w fun e w' => e = .returned (.tuple #[.slice none 0 0, .int .i64 7]) ∧ Below w.heap.size w w' := by
  have HT := hid ht
  have HF := hid hf
  clear ht hf
  go_enter Tryz.func44, Tryz.ntmps44
  go_wp2_with fail
  refine (refPutTagYes _ _ _ HT.out).mono ?_
  rintro e w1 ⟨v1, rfl, ho1, hb1⟩
  have hb := below_trans (below_alloc (.cells #[.int .i64 num, .int .i64 kind, .int .u64 n, .slice a len cap] 40)) hb1
  have c0 : w1.cell? ⟨w.heap.size, 0, none⟩ = some (.int .i64 num) := by rw [hb1.cell (p := ⟨w.heap.size, 0, none⟩) (by simp), World.cell?_alloc_at _ _ _ _ rfl]; rfl
  have c1 : w1.cell? ⟨w.heap.size, 1, none⟩ = some (.int .i64 kind) := by rw [hb1.cell (p := ⟨w.heap.size, 1, none⟩) (by simp), World.cell?_alloc_at _ _ _ _ rfl]; rfl
  have c2 : w1.cell? ⟨w.heap.size, 2, none⟩ = some (.int .u64 n) := by rw [hb1.cell (p := ⟨w.heap.size, 2, none⟩) (by simp), World.cell?_alloc_at _ _ _ _ rfl]; rfl
  have c3 : w1.cell? ⟨w.heap.size, 3, none⟩ = some (.slice a len cap) := by rw [hb1.cell (p := ⟨w.heap.size, 3, none⟩) (by simp), World.cell?_alloc_at _ _ _ _ rfl]; rfl
  clear hb1 ho1
  go_wp2_with fail
  refine (fineR _ _ _ _ _ _ _).mono ?_
  rw [HF.out]
  rintro e w2 ⟨rfl, hb2⟩
  go_wp2
  go_ret2
  exact ⟨rfl, below_trans hb hb2⟩
theorem own_cat3 {w : World} {base : Nat} {v : Value} {ps ys zs : List Int} (h : w.ownsRow base 5 1 v (ps.length + ys.length) (ps.map (Value.int .u8) ++ ys.map (Value.int .u8))) (e : zs = ps ++ ys) :
    w.ownsRow base 5 1 v zs.length (zs.map (Value.int .u8)) := by
  subst e
  simpa using h
set_option maxHeartbeats 1000000 in
theorem refPutEntryYes (num kind n : Int) (a : Option Addr) (len cap : Nat) (ys : List Int) (w : World) (hr : Reads w a len cap ys) (ht : tf num kind = 0) (hf : fit kind n len = true) (hn0 : 0 ≤ n) (hn1 : n < 18446744073709551616) (hm : 20 + len ≤ 140737488355328) :
    Calls Tryz.prog 44 #[.agg #[.int .i64 num, .int .i64 kind, .int .u64 n, .slice a len cap]] w fun e w' => ∃ v, e = .returned (.tuple #[v, .int .i64 0]) ∧ w'.ownsRow w.heap.size 5 1 v (pe num kind n ys).length ((pe num kind n ys).map (Value.int .u8)) ∧ Below w.heap.size w w' := by
  have HT := hid ht
  have HF := hid hf
  have HR := hid hr
  have hlen := hr.length
  have HL := hid hlen
  have hpl := (pv_len (num * 8 + kind)).2
  have hpn := (pv_len n).2
  have hpl2 := (pv_len (len : Int)).2
  have hk2 := okK_cases (tf_ok ht).2.2
  clear ht hf hr hlen
  go_enter Tryz.func44, Tryz.ntmps44
  go_wp2_with fail
  refine (refPutTagYes _ _ _ HT.out).mono ?_
  rintro e w1 ⟨v1, rfl, ho1, hb1⟩
  have hb := below_trans (below_alloc (.cells #[.int .i64 num, .int .i64 kind, .int .u64 n, .slice a len cap] 40)) hb1
  have c0 : w1.cell? ⟨w.heap.size, 0, none⟩ = some (.int .i64 num) := by rw [hb1.cell (p := ⟨w.heap.size, 0, none⟩) (by simp), World.cell?_alloc_at _ _ _ _ rfl]; rfl
  have c1 : w1.cell? ⟨w.heap.size, 1, none⟩ = some (.int .i64 kind) := by rw [hb1.cell (p := ⟨w.heap.size, 1, none⟩) (by simp), World.cell?_alloc_at _ _ _ _ rfl]; rfl
  have c2 : w1.cell? ⟨w.heap.size, 2, none⟩ = some (.int .u64 n) := by rw [hb1.cell (p := ⟨w.heap.size, 2, none⟩) (by simp), World.cell?_alloc_at _ _ _ _ rfl]; rfl
  have c3 : w1.cell? ⟨w.heap.size, 3, none⟩ = some (.slice a len cap) := by rw [hb1.cell (p := ⟨w.heap.size, 3, none⟩) (by simp), World.cell?_alloc_at _ _ _ _ rfl]; rfl
  have ho1' : w1.ownsRow (w.heap.size + 1) 5 1 v1 (pv (num * 8 + kind)).length ((pv (num * 8 + kind)).map (Value.int .u8)) := own_mono ho1 (by simp)
  have hs1 : w.heap.size + 1 ≤ w1.heap.size := by have := hb1.size; simpa using this
  have HO1 := hid ho1'
  clear hb1 ho1 ho1'
  go_wp2_with fail
  refine (fineR _ _ _ _ _ _ _).mono ?_
  rw [HF.out]
  rintro e w2 ⟨rfl, hb2⟩
  have d1 : w2.cell? ⟨w.heap.size, 1, none⟩ = some (.int .i64 kind) := by rw [hb2.cell (p := ⟨w.heap.size, 1, none⟩) (by show w.heap.size < _; omega)]; exact c1
  have d2 : w2.cell? ⟨w.heap.size, 2, none⟩ = some (.int .u64 n) := by rw [hb2.cell (p := ⟨w.heap.size, 2, none⟩) (by show w.heap.size < _; omega)]; exact c2
  have d3 : w2.cell? ⟨w.heap.size, 3, none⟩ = some (.slice a len cap) := by rw [hb2.cell (p := ⟨w.heap.size, 3, none⟩) (by show w.heap.size < _; omega)]; exact c3
  have hsz2 : w.heap.size + 1 ≤ w2.heap.size := Nat.le_trans hs1 hb2.size
  have HO := hid (own_kept HO1.out hb2)
  have HB := hid (below_trans hb hb2)
  clear c0 c1 c2 c3 hb hb2 HO1
  rcases hk2 with rfl | rfl | rfl | rfl
  · go_wp2_with fail
    refine (putvRr n _ hn0 hn1).mono ?_
    rintro e w3 ⟨b3, k3, rfl, hr3, hb3⟩
    obtain ⟨v', w4, hr, hown', hg'⟩ := append_bytes (w.heap.size + 1) v1 _ _ w3 b3 _ k3 _ (own_kept HO.out hb3) (Nat.le_trans hsz2 hb3.size) hr3 (by omega)
    have HR4 := hid hr
    have HB3 := hid hb3
    clear hr hr3 hb3
    go_wp2_with (first | (at_builtin; refine wpList_append_ran rfl _ _ 23 23 rfl rfl _ _ v' w4 rfl rfl HR4.out ?_))
    go_ret2
    exact ⟨v', rfl, own_mono (own_cat3 hown' rfl) (by omega), HB.out.trans ((HB3.out.mono (by omega)).trans (hg'.below (by have := HB3.out.size; omega) (fun k hk => by have := (HO.out.lt k hk).1; omega)))⟩
  · go_wp2_with fail
    refine (putWordRr n 8 _ (by omega)).mono ?_
    rintro e w3 ⟨b3, k3, rfl, hr3, hb3⟩
    obtain ⟨v', w4, hr, hown', hg'⟩ := append_bytes (w.heap.size + 1) v1 _ _ w3 b3 _ k3 _ (own_kept HO.out hb3) (Nat.le_trans hsz2 hb3.size) hr3 (by rw [pw_length]; omega)
    have HR4 := hid hr
    have HB3 := hid hb3
    clear hr hr3 hb3
    go_wp2_with (first | (at_builtin; refine wpList_append_ran rfl _ _ 23 23 rfl rfl _ _ v' w4 rfl rfl HR4.out ?_))
    go_ret2
    exact ⟨v', rfl, own_mono (own_cat3 hown' rfl) (by omega), HB.out.trans ((HB3.out.mono (by omega)).trans (hg'.below (by have := HB3.out.size; omega) (fun k hk => by have := (HO.out.lt k hk).1; omega)))⟩
  · go_wp2_with fail
    refine (putChunkRr a len cap ys _ (reads_kept HR.out HB.out) (by omega)).mono ?_
    rintro e w3 ⟨b3, k3, rfl, hr3, hb3⟩
    obtain ⟨v', w4, hr, hown', hg'⟩ := append_bytes (w.heap.size + 1) v1 _ _ w3 b3 _ k3 _ (own_kept HO.out hb3) (Nat.le_trans hsz2 hb3.size) hr3 (by have := HL.out; rw [pc, List.length_append, this]; omega)
    have HR4 := hid hr
    have HB3 := hid hb3
    clear hr hr3 hb3
    go_wp2_with (first | (at_builtin; refine wpList_append_ran rfl _ _ 23 23 rfl rfl _ _ v' w4 rfl rfl HR4.out ?_))
    go_ret2
    exact ⟨v', rfl, own_mono (own_cat3 hown' rfl) (by omega), HB.out.trans ((HB3.out.mono (by omega)).trans (hg'.below (by have := HB3.out.size; omega) (fun k hk => by have := (HO.out.lt k hk).1; omega)))⟩
  · go_wp2_with fail
    refine (putWordRr n 4 _ (by omega)).mono ?_
    rintro e w3 ⟨b3, k3, rfl, hr3, hb3⟩
    obtain ⟨v', w4, hr, hown', hg'⟩ := append_bytes (w.heap.size + 1) v1 _ _ w3 b3 _ k3 _ (own_kept HO.out hb3) (Nat.le_trans hsz2 hb3.size) hr3 (by rw [pw_length]; omega)
    have HR4 := hid hr
    have HB3 := hid hb3
    clear hr hr3 hb3
    go_wp2_with (first | (at_builtin; refine wpList_append_ran rfl _ _ 23 23 rfl rfl _ _ v' w4 rfl rfl HR4.out ?_))
    go_ret2
    exact ⟨v', rfl, own_mono (own_cat3 hown' rfl) (by omega), HB.out.trans ((HB3.out.mono (by omega)).trans (hg'.below (by have := HB3.out.size; omega) (fun k hk => by have := (HO.out.lt k hk).1; omega)))⟩
/-- The document's PutEntry's answer as a slice that can be read. -/
theorem refPutEntryAny (num kind n : Int) (a : Option Addr) (len cap : Nat) (ys : List Int) (w : World) (hr : Reads w a len cap ys) (hn0 : 0 ≤ n) (hn1 : n < 18446744073709551616) (hm : 20 + len ≤ 140737488355328) :
    Calls Tryz.prog 44 #[.agg #[.int .i64 num, .int .i64 kind, .int .u64 n, .slice a len cap]] w fun e w' => ∃ b c, e = .returned (.tuple #[.slice b (pp num kind n ys).length c, .int .i64 (ef num kind n len)]) ∧ Reads w' b (pp num kind n ys).length c (pp num kind n ys) ∧ Below w.heap.size w w' := by
  have hlen := hr.length
  by_cases ht : tf num kind = 0
  · cases hf : fit kind n len with
    | true =>
      have he : ef num kind n len = 0 := by rw [ef_fit ht, if_pos hf]
      refine (refPutEntryYes num kind n a len cap ys w hr ht hf hn0 hn1 hm).mono ?_
      rintro e w' ⟨v, rfl, ho, hb⟩
      obtain ⟨b, c, rfl, hr2⟩ := own_reads ho (pe_bd ht hn0 hn1 (bd_mem hr.bd) (by omega))
      have e1 : pp num kind n ys = pe num kind n ys := by rw [pp, hlen, if_pos he]
      rw [e1, he]
      exact ⟨b, c, rfl, hr2, hb⟩
    | false =>
      have he : ef num kind n len = 7 := by rw [ef_fit ht, if_neg (by simp [hf])]
      refine (refPutEntryFine num kind n a len cap w ht hf).mono ?_
      rintro e w' ⟨rfl, hb⟩
      have e1 : pp num kind n ys = [] := by rw [pp, hlen, if_neg (by rw [he]; decide)]
      rw [e1, he]
      exact ⟨none, 0, rfl, reads_nil _, hb⟩
  · have he : ef num kind n len = tf num kind := ef_tf ht
    refine (refPutEntryTag num kind n a len cap w ht).mono ?_
    rintro e w' ⟨rfl, hb⟩
    have e1 : pp num kind n ys = [] := by rw [pp, hlen, if_neg (by rw [he]; exact ht)]
    rw [e1, he]
    exact ⟨none, 0, rfl, reads_nil _, hb⟩
end Go.Proofs.YtnfdlnelfnigdaaGreatDoor.W
namespace Go.Proofs.YtnfdlnelfnigdaaGreatDoor
open Go.RowKit
set_option maxRecDepth 1000000
set_option linter.unusedVariables false
set_option linter.unusedSimpArgs false
set_option maxHeartbeats 1000000
/-- An entry that can be written. -/
def entB (x : CE) : Bool := W.ef x.num x.kind x.n x.b.length == 0
theorem Reads.old {w : World} {a : Option Addr} {len cap : Nat} {xs : List Int} (h : Reads w a len cap xs) : W.Reads w a len cap xs := ⟨h.length, h.le, h.max, h.bd, h.cells⟩
theorem isEntryM (w : World) (Z : Nat → Prop) (cs : List Value) (x : CE) (h : EntE w Z cs x) : Calls Tryz.prog 117 #[.agg cs.toArray] w fun e w' => e = .returned (.bool (entB x)) ∧ Below w.heap.size w w' := by
  obtain ⟨ba, bc, rfl, g1, l1, -, -, hu⟩ := ent_open h
  have HP := hid fun W1 (hW : Below w.heap.size w W1) => W.putEntryAny x.num x.kind x.n ba x.b.length bc x.b W1 (g1.kept hW).reads.old hu.1 hu.2 (by omega)
  have HX : Hid (entB x = (W.ef x.num x.kind x.n x.b.length == 0)) := hid rfl
  clear h g1 hu
  generalize entB x = res at *
  generalize W.ef x.num x.kind x.n x.b.length = er at *
  go_enter Tryz.func117, Tryz.ntmps117
  go_wp2_with fail
  refine (HP.out _ (by exact blBy)).mono ?_
  rintro e w1 ⟨b, c, rfl, -, hb1⟩
  have hbz : Hid (Below w.heap.size w w1) := hid (bl_then (by exact blBy) hb1)
  clear hb1
  go_wp2
  go_ret
  exact ⟨ret_bool HX.out.symm, hbz.out⟩
/-- What hold asks of a message, by the entries' own rule. -/
theorem holdT (w : World) (l : List TV) (ta : Option Addr) (tc : Nat) (h : TbR w (.slice ta l.length tc) l) (hg : goodB l = true) (x : TV) (hx : x ∈ l) (Z : Nat → Prop) (d : Nat) (cs : List Value) (m : CM) (hm : MsgE w Z (d + 1) cs m) : Calls Tryz.prog 77 #[.agg #[.slice ta l.length tc], .agg (cTV x).toArray, .agg cs.toArray] w fun e w' => e = .returned (.bool (holdB l entB x m)) ∧ Below w.heap.size w w' :=
  holdM w l ta tc h hg x hx (good_ones hg hx) entB Z (fun W hW cs y hy => isEntryM W Z cs y hy) d cs m hm
end Go.Proofs.YtnfdlnelfnigdaaGreatDoor
namespace Go.Proofs.YtnfdlnelfnigdaaGreatDoor
open Go.RowKit
set_option maxRecDepth 1000000
set_option linter.unusedVariables false
set_option linter.unusedSimpArgs false
theorem sym_one {n : Int} (hn : U64 n) {s : SY} (hs : I64 s.num) : syN (IntKind.i64.wrap n) s = symN n s := by
  unfold syN symN
  rw [IntKind.wrap_i64]
  obtain ⟨h0, h1⟩ := hn
  obtain ⟨h2, h3⟩ := hs
  rw [Bool.eq_iff_iff]
  simp only [decide_eq_true_eq, beq_iff_eq]
  omega
theorem sym_all {n : Int} (hn : U64 n) : ∀ {ss : List SY}, (∀ s ∈ ss, I64 s.num) → (ss.find? (syN (IntKind.i64.wrap n))).isSome = ss.any (symN n)
  | [], _ => rfl
  | s :: r, h => by
    rw [List.find?_cons, List.any_cons, sym_one hn (h s List.mem_cons_self)]
    cases symN n s with
    | true => rfl
    | false => exact sym_all hn (fun t ht => h t (List.mem_cons_of_mem _ ht))
theorem val_eq (l : List TV) (hs : ∀ y ∈ l, ∀ s ∈ y.t.ss, I64 s.num) (T : Nat → CM → Bool) (o : FT) (v : CV CM) (hv : U64 v.n) : valD l T o.kind o.ref v = (valB l o v && (if o.kind = 17 then v.ms.all (T o.ref.toNat) else true)) := by
  unfold valD valB
  by_cases h17 : o.kind = 17
  · rw [if_pos h17, if_pos h17, if_pos h17]
    cases (v.n == 0) with
    | false => rfl
    | true =>
      cases ((v.b.length : Int) == 0) with
      | false => rfl
      | true =>
        obtain ⟨n, b, ms⟩ := v
        match ms with
        | [] => rfl
        | [z] => simp [hd1]
        | z :: y :: r =>
          have h2 : (((z :: y :: r).length : Int) == 1) = false := by
            rw [beq_eq_false_iff_ne]
            simp only [List.length_cons]
            omega
          simp only [h2, Bool.false_and, Bool.and_false, Bool.true_and]
  rw [if_neg h17, if_neg h17, if_neg h17, Bool.and_true]
  by_cases h16 : o.kind = 16
  · rw [if_pos h16, if_pos h16, h16]
    cases hq : vfit 16 v.n v.b.length v.ms.length with
    | false => simp
    | true =>
      rw [if_neg (by simp), if_neg (by decide), Bool.true_and]
      cases hy : l[o.ref.toNat]? with
      | none => rfl
      | some y => exact sym_all hv (hs y (List.mem_of_getElem? hy))
  · rw [if_neg h16, if_neg h16]
    unfold scalarB
    cases hq : vfit o.kind v.n v.b.length v.ms.length with
    | false => simp
    | true =>
      rw [if_neg (by simp)]
      by_cases h14 : o.kind = 14
      · rw [if_pos h14]; simp [h14]
      · rw [if_neg h14]; simp [h14]
/-- Of each oneof at most one: by pairs. -/
theorem single_pairs (fs : List FT) : ∀ (l : List (CF CM)) (T : Nat → Bool), singleT fs l T = true ↔ (∀ x ∈ l, (ownF fs x.num).lab = 4 → T (ownF fs x.num).one.toNat = false) ∧ l.Pairwise (fun x y => (ownF fs x.num).lab = 4 → (ownF fs y.num).lab = 4 → (ownF fs x.num).one.toNat ≠ (ownF fs y.num).one.toNat)
  | [], T => by simp [singleT]
  | f :: r, T => by
    unfold singleT
    by_cases h4 : (ownF fs f.num).lab = 4
    · rw [if_pos h4]
      cases hT : T (ownF fs f.num).one.toNat with
      | true =>
        rw [if_pos rfl]
        refine ⟨fun e => (by cases e), fun h => ?_⟩
        have := h.1 f List.mem_cons_self h4
        rw [hT] at this
        cases this
      | false =>
        rw [if_neg (by simp), single_pairs fs r, List.pairwise_cons]
        constructor
        · rintro ⟨h1, h2⟩
          refine ⟨fun x hx hx4 => ?_, fun y hy _ hy4 e => ?_, h2⟩
          · rcases List.mem_cons.1 hx with rfl | hx
            · exact hT
            · have := h1 x hx hx4
              simp at this
              exact this.2
          · have := h1 y hy hy4
            simp at this
            exact this.1 e.symm
        · rintro ⟨h1, h2, h3⟩
          refine ⟨fun x hx hx4 => ?_, h3⟩
          have a1 := h1 x (List.mem_cons_of_mem _ hx) hx4
          have a2 := h2 x hx h4 hx4
          simp [a1]
          exact fun e => a2 e.symm
    · rw [if_neg h4, single_pairs fs r, List.pairwise_cons]
      constructor
      · rintro ⟨h1, h2⟩
        refine ⟨fun x hx hx4 => ?_, fun y hy hf _ => absurd hf h4, h2⟩
        rcases List.mem_cons.1 hx with rfl | hx
        · exact absurd hx4 h4
        · exact h1 x hx hx4
      · rintro ⟨h1, -, h3⟩
        exact ⟨fun x hx hx4 => h1 x (List.mem_cons_of_mem _ hx) hx4, h3⟩
theorem pairs_all {P : CF CM → Prop} {k : CF CM → Nat} : ∀ {l : List (CF CM)}, l.Pairwise (fun x y => x.num < y.num) → (l.Pairwise (fun x y => P x → P y → k x ≠ k y) ↔ ∀ x ∈ l, ∀ y ∈ l, x.num ≠ y.num → P x → P y → k x ≠ k y)
  | [], _ => by simp
  | a :: r, h => by
    rw [List.pairwise_cons] at h ⊢
    rw [pairs_all h.2]
    constructor
    · rintro ⟨h1, h2⟩ x hx y hy hn px py
      rcases List.mem_cons.1 hx with ex | hx'
      · rcases List.mem_cons.1 hy with ey | hy'
        · exact absurd (by rw [ex, ey]) hn
        · rw [ex] at px ⊢
          exact h1 y hy' px py
      · rcases List.mem_cons.1 hy with ey | hy'
        · rw [ey] at py ⊢
          exact fun e => h1 x hx' py px e.symm
        · exact h2 x hx' y hy' hn px py
    · intro h1
      exact ⟨fun y hy pa py => h1 a List.mem_cons_self y (List.mem_cons_of_mem _ hy) (by have := h.1 y hy; omega) pa py, fun x hx y hy => h1 x (List.mem_cons_of_mem _ hx) y (List.mem_cons_of_mem _ hy)⟩
/-- The program's marks and the document's search say the same of oneofs. -/
theorem single_other (fs : List FT) (xs : List (CF CM)) (hr : xs.Pairwise (fun x y => x.num < y.num)) (hh : ∀ x ∈ xs, hasF fs x.num = true) (hn : ∀ x ∈ xs, (ownF fs x.num).num = x.num) (ho : ∀ x ∈ xs, (ownF fs x.num).lab = 4 → 0 ≤ (ownF fs x.num).one) : singleB fs xs = xs.all (fun x => !(((ownF fs x.num).lab == 4) && xs.any (othP fs (ownF fs x.num)))) := by
  rw [Bool.eq_iff_iff]
  unfold singleB
  rw [single_pairs, pairs_all hr, List.all_eq_true]
  constructor
  · rintro ⟨-, h⟩ x hx
    rw [Bool.not_eq_true', Bool.and_eq_false_iff]
    by_cases h4 : (ownF fs x.num).lab = 4
    · refine .inr ?_
      rw [List.any_eq_false]
      intro y hy hq
      unfold othP at hq
      simp only [Bool.and_eq_true, beq_iff_eq, bne_iff_ne] at hq
      obtain ⟨-, q4, q1, q2⟩ := hq
      rw [hn y hy, hn x hx] at q2
      exact h y hy x hx q2 q4 h4 (by rw [q1])
    · exact .inl (by simpa using h4)
  · intro h
    refine ⟨fun x hx _ => rfl, fun x hx y hy hne hx4 hy4 e => ?_⟩
    have := h x hx
    rw [Bool.not_eq_true', Bool.and_eq_false_iff] at this
    rcases this with q | q
    · simp [hx4] at q
    · rw [List.any_eq_false] at q
      refine q y hy ?_
      unfold othP
      have e1 := ho x hx hx4
      have e2 := ho y hy hy4
      simp only [Bool.and_eq_true, beq_iff_eq, bne_iff_ne, hh y hy, hn y hy, hn x hx]
      exact ⟨trivial, hy4, by omega, fun e => hne e.symm⟩
end Go.Proofs.YtnfdlnelfnigdaaGreatDoor
namespace Go.Proofs.YtnfdlnelfnigdaaGreatDoor
open Go.RowKit
set_option maxRecDepth 1000000
set_option linter.unusedVariables false
set_option linter.unusedSimpArgs false
set_option maxHeartbeats 1000000
/-- The type of the messages in a field. -/
def blwB (l : List TV) (x : TV) (f : CF CM) : TV := (l[(ownF x.t.fs f.num).ref.toNat]?).getD x
/-- Whether a message, so deep at most, is typed. -/
def keptB (l : List TV) (d : Nat) (x : TV) (m : CM) : Bool := walkB (holdB l entB) (blwB l) d x m
theorem ownF_hasF {fs : List FT} {n : Int} (h : hasF fs n = true) : ownF fs n ∈ fs ∧ (ownF fs n).num = n := by
  unfold hasF at h
  unfold ownF
  cases hq : fs.find? (fun o => o.num == n) with
  | none => rw [hq] at h; cases h
  | some o => exact ⟨List.mem_of_find?_eq_some hq, by have := List.find?_some hq; simpa using this⟩
theorem holdB_has {l : List TV} {ent : CE → Bool} {x : TV} {m : CM} (h : holdB l ent x m = true) {f : CF CM} (hf : f ∈ m.fs) : hasF x.t.fs f.num = true := by
  unfold holdB at h
  simp only [Bool.and_eq_true, List.all_eq_true] at h
  have := h.2.1 f hf
  unfold typB8 at this
  simp only [Bool.and_eq_true] at this
  exact this.1
theorem blwB_at {l : List TV} (hg : goodB l = true) {x : TV} (hx : x ∈ l) {f : CF CM} (hf : hasF x.t.fs f.num = true) : l[(ownF x.t.fs f.num).ref.toNat]? = some (blwB l x f) := by
  obtain ⟨h1, h2⟩ := ownF_hasF hf
  obtain ⟨r0, r1⟩ := good_refs hg hx h1
  unfold blwB
  rw [List.getElem?_eq_getElem r1]
  rfl
theorem blwB_in {l : List TV} (hg : goodB l = true) {x : TV} (hx : x ∈ l) {f : CF CM} (hf : hasF x.t.fs f.num = true) : blwB l x f ∈ l := List.mem_of_getElem? (blwB_at hg hx hf)
theorem cfHold (args : Array Value) (W : World) : (callFunc 77 args).run Tryz.prog W = .ok (.enter 77 args) W := cf_enter Tryz.func77 (by kernel_rfl) (by kernel_rfl) args W
theorem cfBelow (args : Array Value) (W : World) : (callFunc 31 args).run Tryz.prog W = .ok (.enter 31 args) W := cf_enter Tryz.func31 (by kernel_rfl) (by kernel_rfl) args W
theorem wkHold (l : List TV) (ta : Option Addr) (tc : Nat) (hg : goodB l = true) (hsh : ∀ x ∈ l, ShT x) (Z : Nat → Prop) : WkH Z (fun W => TbR W (.slice ta l.length tc) l) (· ∈ l) (fun _ _ _ => True) (holdB l entB) (blwB l) 77 31 #[.agg #[.slice ta l.length tc]] #[.agg #[.slice ta l.length tc]] where
  kept h hb := h.kept hb
  sh := hsh
  eh := cfHold
  eb := cfBelow
  h W x d cs m hW hx _ hm := by
    cases d with
    | zero => exact hm.elim
    | succ d => exact holdT W l ta tc hW hg x hx Z d cs m hm
  b W x d cs m f hW hx _ hh hf hfe := by
    have h1 := holdB_has hh hf
    exact belowT W l ta tc hW hg x hx Z d cs f hfe _ (ownF_hasF h1).1 (ownF_hasF h1).2 _ (blwB_at hg hx h1)
  i x d m f hx _ hh hf := blwB_in hg hx (holdB_has hh hf)
  q _ _ _ _ _ _ _ _ _ _ := trivial
theorem areKeptT (w : World) (l : List TV) (ta : Option Addr) (tc : Nat) (h : TbR w (.slice ta l.length tc) l) (hg : goodB l = true) (x : TV) (hx : x ∈ l) (Z : Nat → Prop) (d : Nat) (cs : List Value) (m : CM) (hm : MsgE w Z d cs m) : Calls Tryz.prog 36 #[.agg #[.slice ta l.length tc], .agg (cTV x).toArray, .agg cs.toArray] w fun e w' => e = .returned (.bool (keptB l d x m)) ∧ Below w.heap.size w w' := by
  have HW := hid fun W (hW : Below w.heap.size w W) => walkT (wkHold l ta tc hg (fun x hx => shT_of (h.ty x hx)) Z) d W x cs m (h.kept hW) hx trivial (hm.kept hW)
  obtain ⟨ta1, tc1, ta2, tc2, ta3, tc3, ta4, tc4, e1, e2, e3, e4⟩ := shT_of (h.ty x hx)
  have ec : cTV x = [.string (strOfNums x.t.name), .bool x.t.enum, .slice ta1 x.t.fs.length tc1, .slice ta2 x.t.os.length tc2, .slice ta3 x.t.ss.length tc3, .slice ta4 x.t.rs.length tc4] := by unfold cTV; rw [e1, e2, e3, e4]
  obtain ⟨fa, fc, ua, uc, rfl, -⟩ := msg_openD hm
  have HX : Hid (walkB (holdB l entB) (blwB l) d x m = keptB l d x m) := hid rfl
  rw [ec] at HW ⊢
  clear h hg hx hm e1 e2 e3 e4 ec
  generalize keptB l d x m = res at *
  go_enter Tryz.func36, Tryz.ntmps36
  go_wp2_with fail
  refine (HW.out _ (by exact blBy)).mono ?_
  rintro e w1 ⟨rfl, hb1⟩
  have HB1 : Hid (Below w.heap.size w w1) := hid (bl_then (by exact blBy) hb1)
  clear hb1 HW
  go_wp2
  go_ret
  exact ⟨ret_bool HX.out, HB1.out⟩
theorem typedT (w : World) (l : List TV) (ta : Option Addr) (tc : Nat) (h : TbR w (.slice ta l.length tc) l) (hk : ∀ x ∈ l, OkV x) (mx : Int) (hm0 : w.cell? ⟨0, 0, none⟩ = some (.int .i64 mx)) (k : Nat) (hkl : k < l.length) (hg : goodB l = true) (he : l[k].t.enum = false) (Z : Nat → Prop) (d : Nat) (cs : List Value) (m : CM) (hm : MsgE w Z d cs m) : Calls Tryz.prog 17 #[.agg #[.slice ta l.length tc], .int .i64 (k : Int), .agg cs.toArray] w fun e w' => e = .returned (.tuple #[.bool (keptB l d l[k] m), .int .i64 0]) ∧ Below w.heap.size w w' := by
  have HA := hid fun W (hW : Below w.heap.size w W) => msgAtOk W l ta tc (h.kept hW) hk mx (cell_below hm0 hW) k hkl hg he
  have HK := hid fun W (hW : Below w.heap.size w W) => areKeptT W l ta tc (h.kept hW) hg l[k] (List.getElem_mem hkl) Z d cs m (hm.kept hW)
  obtain ⟨ta1, tc1, ta2, tc2, ta3, tc3, ta4, tc4, e1, e2, e3, e4⟩ := shT_of (h.ty l[k] (List.getElem_mem hkl))
  have ec : cTV l[k] = [.string (strOfNums l[k].t.name), .bool false, .slice ta1 l[k].t.fs.length tc1, .slice ta2 l[k].t.os.length tc2, .slice ta3 l[k].t.ss.length tc3, .slice ta4 l[k].t.rs.length tc4] := by unfold cTV; rw [e1, e2, e3, e4, he]
  obtain ⟨fa, fc, ua, uc, rfl, -⟩ := msg_openD hm
  rw [ec] at HK
  rw [e1, e2, e3, e4] at HA
  clear h hg hm e1 e2 e3 e4 ec hm0 hk he
  generalize keptB l d l[k] m = res at *
  generalize l[k] = x at *
  go_enter Tryz.func17, Tryz.ntmps17
  go_wp2_with fail
  refine (HA.out _ (by exact blBy)).mono ?_
  rintro e w1 ⟨rfl, hb1⟩
  have HB1 : Hid (Below w.heap.size w w1) := hid (bl_then (by exact blBy) hb1)
  have Bt : Blk w1 w.heap.size 46 #[.slice ta l.length tc] := ((Blk.new _ _ _).kept (below_alloc _)).kept hb1
  have Bm : Blk w1 (w.heap.size + 1) 35 #[.slice fa m.fs.length fc, .slice ua m.us.length uc] := (Blk.newAt (by simp)).kept hb1
  have xt := Bt.cellF
  have zt := Bt.lt
  have xm := Bm.cellF
  have zm := Bm.lt
  clear hb1 HA
  go_wp2_with fail
  refine (HK.out _ (by have := HB1.out; exact blBy)).mono ?_
  rintro e w2 ⟨rfl, hb2⟩
  have HB2 : Hid (Below w.heap.size w w2) := hid (bl_then (by have := HB1.out; exact blBy) hb2)
  clear hb2 HK
  go_wp2
  exact bodyPost_ret (v := .tuple #[.bool res, .int .i64 0]) (by simp [results, Tryz.results17, go_sem]) rfl ⟨rfl, by have := HB2.out; exact blBy⟩
end Go.Proofs.YtnfdlnelfnigdaaGreatDoor
namespace Go.Proofs.YtnfdlnelfnigdaaGreatDoor
open Go.RowKit
set_option maxRecDepth 1000000
set_option linter.unusedVariables false
set_option linter.unusedSimpArgs false
/-- P of all from k on, below n. -/
def allF (P : Nat → Bool) (k n : Nat) : Bool := (List.range' k (n - k)).all P
theorem allF_step {P : Nat → Bool} {k n : Nat} (h : k < n) : allF P k n = (P k && allF P (k + 1) n) := by
  unfold allF
  rw [show n - k = (n - (k + 1)) + 1 by omega, List.range'_succ, List.all_cons]
theorem allF_end {P : Nat → Bool} {k n : Nat} (h : n ≤ k) : allF P k n = true := by
  unfold allF
  rw [show n - k = 0 by omega]
  rfl
theorem allF_iff {P : Nat → Bool} {k n : Nat} : allF P k n = true ↔ ∀ i, k ≤ i → i < n → P i = true := by
  unfold allF
  rw [List.all_eq_true]
  constructor
  · intro h i hk hn
    exact h i (List.mem_range'_1.2 ⟨hk, by omega⟩)
  · intro h i hi
    have := List.mem_range'_1.1 hi
    exact h i this.1 (by omega)
/-- Whether a key stands behind the one ahead of it. -/
def keyAt (key : Int) (ks : List (CV CM)) (k : Nat) (v : CV CM) : Bool := decide (k = 0) || (match ks[k - 1]? with | none => true | some a => decide (cmpV key a.n v.n a.b v.b < 0))
theorem keyAt_succ {key : Int} {ks : List (CV CM)} {k : Nat} {v : CV CM} (h : k < ks.length) : keyAt key ks (k + 1) v = decide (cmpV key ks[k].n v.n ks[k].b v.b < 0) := by
  unfold keyAt
  rw [Nat.add_sub_cancel, List.getElem?_eq_getElem h]
  simp
theorem keyAt_zero {key : Int} {ks : List (CV CM)} {v : CV CM} : keyAt key ks 0 v = true := rfl
/-- Whether a number is greater than the one ahead of it. -/
def riseAt (xs : List (CF CM)) (j : Nat) (n : Int) : Bool := decide (j = 0) || (match xs[j - 1]? with | none => true | some y => decide (y.num < n))
theorem riseAt_succ {xs : List (CF CM)} {j : Nat} {n : Int} (h : j < xs.length) : riseAt xs (j + 1) n = decide (xs[j].num < n) := by
  unfold riseAt
  rw [Nat.add_sub_cancel, List.getElem?_eq_getElem h]
  simp
theorem riseAt_zero {xs : List (CF CM)} {n : Int} : riseAt xs 0 n = true := rfl
theorem EnsR.old8 {w : World} {Z : Nat → Prop} {v : Value} {xs : List CE} (h : EnsR w Z v xs) : EnsR w (fun b => Z b ∧ b < w.heap.size) v xs := RowM.old (by decide) h (fun cs x _ hx => famE.old hx)
/-- A key: it is typed, and behind the one ahead of it. -/
def keyD (l : List TV) (T : Nat → CM → Bool) (key : Int) (ks : List (CV CM)) (k : Nat) : Bool := match ks[k]? with
  | none => true
  | some v => valD l T key 0 v && keyAt key ks k v
def shapeD (lab : Int) (f : CF CM) : Bool := !(decide (lab ≠ 5) && decide (0 < f.ks.length)) && (!(decide (lab = 5) && decide (f.ks.length ≠ f.vs.length)) && !(decide (lab = 0 ∨ lab = 1 ∨ lab = 4) && decide (f.vs.length ≠ 1)))
def fldD (l : List TV) (T : Nat → CM → Bool) (fs : List FT) (xs : List (CF CM)) (j : Nat) : Bool := match xs[j]? with
  | none => true
  | some x => hasF fs x.num && (riseAt xs j x.num && (shapeD (ownF fs x.num).lab x && (x.vs.all (valD l T (ownF fs x.num).kind (ownF fs x.num).ref) && (allF (keyD l T (ownF fs x.num).key x.ks) 0 x.ks.length && !(decide ((ownF fs x.num).lab = 4) && xs.any (othP fs (ownF fs x.num)))))))
/-- Whether a message is typed, as the document asks: T tells it of the messages within, by a type's index. -/
def tyD (l : List TV) (T : Nat → CM → Bool) (fs : List FT) (m : CM) : Bool := allF (fldD l T fs m.fs) 0 m.fs.length && m.us.all entB
theorem good_fld {l : List TV} (hg : goodB l = true) {x : TV} (hx : x ∈ l) {o : FT} (ho : o ∈ x.t.fs) : (1 ≤ o.kind ∧ o.kind ≤ 17) ∧ (0 ≤ o.lab ∧ o.lab ≤ 5) ∧ (o.lab = 5 → kkey o.key = true) := by
  obtain ⟨k, hk, rfl⟩ := List.mem_iff_getElem.1 hx
  have h := good_at hg hk
  unfold stepB typB at h
  simp only [Bool.and_eq_true] at h
  have h2 := h.2.2.2
  split at h2
  · rw [Bool.and_eq_true, decide_eq_true_eq] at h2
    have h3 : l[k].t.fs.length = 0 := by omega
    rw [List.eq_nil_of_length_eq_zero h3] at ho
    exact absurd ho (by simp)
  · unfold msgB at h2
    simp only [Bool.and_eq_true] at h2
    have h3 := List.all_eq_true.1 h2.2.2.1 o ho
    unfold fldB at h3
    simp only [Bool.and_eq_true, decide_eq_true_eq] at h3
    refine ⟨h3.1, ?_, fun h5 => ?_⟩
    · have h4 := h3.2.2.1
      unfold labB at h4
      split at h4
      · omega
      · split at h4
        · omega
        · rw [decide_eq_true_eq] at h4
          omega
    · have h6 := h3.2.2.2.2
      unfold keyB at h6
      rw [if_pos h5] at h6
      exact h6
theorem shape_eq {lab : Int} (h0 : 0 ≤ lab) (h5 : lab ≤ 5) (f : CF CM) : shapeD lab f = shapeB lab f := by
  rw [Bool.eq_iff_iff]
  unfold shapeD shapeB
  have hc : lab = 0 ∨ lab = 1 ∨ lab = 2 ∨ lab = 3 ∨ lab = 4 ∨ lab = 5 := by omega
  rcases hc with rfl | rfl | rfl | rfl | rfl | rfl <;> simp <;> omega
theorem key_kind {k : Int} (h : kkey k = true) : k ≠ 16 ∧ k ≠ 17 := by
  unfold kkey at h
  rw [decide_eq_true_eq] at h
  omega
theorem val_key (l : List TV) (T : Nat → CM → Bool) {k : Int} (h : kkey k = true) (v : CV CM) : valD l T k 0 v = scalarB k v := by
  obtain ⟨h16, h17⟩ := key_kind h
  unfold valD scalarB
  rw [if_neg h17]
  cases hq : vfit k v.n v.b.length v.ms.length with
  | false => simp
  | true =>
    rw [if_neg (by simp)]
    by_cases h14 : k = 14
    · rw [if_pos h14]; simp [h14]
    · rw [if_neg h14, if_neg h16]; simp [h14]
theorem scalar_fit {k : Int} {v : CV CM} (h : scalarB k v = true) : vfit k v.n v.b.length v.ms.length = true := by
  unfold scalarB at h
  rw [Bool.and_eq_true] at h
  exact h.1
theorem fit_ms {k n : Int} {a b : Nat} (h : vfit k n a b = true) : b = 0 := by
  unfold vfit at h
  rw [Bool.and_eq_true, decide_eq_true_eq] at h
  exact h.1
theorem key_lt {k : Int} (hk : kkey k = true) {a b : CV CM} (ha : scalarB k a = true) (hb : scalarB k b = true) : keyLt k a b = decide (cmpV k a.n b.n a.b b.b < 0) := by
  unfold keyLt cmpE
  rw [if_neg (by rw [hk]; simp), if_neg (by rw [scalar_fit ha, scalar_fit hb]; simp)]
theorem keysB_iff {k : Int} {l : List (CV CM)} : keysB k l = true ↔ ∀ i (h : i + 1 < l.length), keyLt k l[i] l[i + 1] = true := by
  unfold keysB keyS
  rw [List.all_eq_true]
  constructor
  · intro h i hi
    have := h i (List.mem_range'_1.2 ⟨by omega, by omega⟩)
    rw [List.getElem?_eq_getElem (by omega), List.getElem?_eq_getElem hi] at this
    exact this
  · intro h i hi
    have := List.mem_range'_1.1 hi
    rw [List.getElem?_eq_getElem (by omega), List.getElem?_eq_getElem (by omega)]
    exact h i (by omega)
theorem riseM_iff {l : List (CF CM)} : riseM l = true ↔ ∀ i (h : i + 1 < l.length), l[i].num < l[i + 1].num := by
  unfold riseM
  rw [List.all_eq_true]
  constructor
  · intro h i hi
    have := h i (List.mem_range.2 (by omega))
    rw [List.getElem?_eq_getElem (by omega), List.getElem?_eq_getElem hi] at this
    exact of_decide_eq_true this
  · intro h i hi
    have := List.mem_range.1 hi
    rw [List.getElem?_eq_getElem (by omega), List.getElem?_eq_getElem (by omega)]
    exact decide_eq_true (h i (by omega))
theorem rise_lt {l : List (CF CM)} (h : riseM l = true) : ∀ (i j : Nat) (hij : i < j) (hj : j < l.length), (l[i]'(by omega)).num < l[j].num := by
  rw [riseM_iff] at h
  intro i j hij hj
  induction j with
  | zero => omega
  | succ j ih =>
    have h1 := h j hj
    by_cases e : i = j
    · subst e; exact h1
    · have := ih (by omega) (by omega); omega
theorem rise_pairs {l : List (CF CM)} (h : riseM l = true) : l.Pairwise (fun x y => x.num < y.num) := by
  rw [List.pairwise_iff_getElem]
  intro i j hi hj hij
  exact rise_lt h i j hij hj
theorem keyD_at {l : List TV} {T : Nat → CM → Bool} {key : Int} {ks : List (CV CM)} {k : Nat} (h : k < ks.length) : keyD l T key ks k = (valD l T key 0 ks[k] && keyAt key ks k ks[k]) := by
  unfold keyD
  rw [List.getElem?_eq_getElem h]
theorem keys_eq (l : List TV) (T : Nat → CM → Bool) {key : Int} (hk : kkey key = true) (ks : List (CV CM)) : allF (keyD l T key ks) 0 ks.length = (ks.all (scalarB key) && keysB key ks) := by
  rw [Bool.eq_iff_iff, Bool.and_eq_true, allF_iff, List.all_eq_true]
  constructor
  · intro h
    have h1 : ∀ i (hi : i < ks.length), scalarB key ks[i] = true := fun i hi => by
      have := h i (by omega) hi
      rw [keyD_at hi, Bool.and_eq_true, val_key l T hk] at this
      exact this.1
    refine ⟨fun v hv => ?_, keysB_iff.2 fun i hi => ?_⟩
    · obtain ⟨i, hi, rfl⟩ := List.mem_iff_getElem.1 hv
      exact h1 i hi
    · rw [key_lt hk (h1 i (by omega)) (h1 (i + 1) hi)]
      have := h (i + 1) (by omega) hi
      rw [keyD_at hi, Bool.and_eq_true, keyAt_succ (by omega)] at this
      exact this.2
  · rintro ⟨h1, h2⟩ i _ hi
    rw [keysB_iff] at h2
    rw [keyD_at hi, Bool.and_eq_true, val_key l T hk]
    refine ⟨h1 _ (List.getElem_mem hi), ?_⟩
    match i, hi with
    | 0, _ => exact keyAt_zero
    | i + 1, hi =>
      rw [keyAt_succ (by omega)]
      have := h2 i hi
      rw [key_lt hk (h1 _ (List.getElem_mem _)) (h1 _ (List.getElem_mem _))] at this
      exact this
theorem all_flat {α β : Type} (g : α → List β) (P : β → Bool) : ∀ (l : List α), (l.flatMap g).all P = l.all (fun a => (g a).all P)
  | [] => rfl
  | a :: r => by rw [List.flatMap_cons, List.all_append, List.all_cons, all_flat g P r]
theorem all_and {α : Type} (P Q : α → Bool) : ∀ (l : List α), l.all (fun a => P a && Q a) = (l.all P && l.all Q)
  | [] => rfl
  | a :: r => by
    rw [List.all_cons, List.all_cons, List.all_cons, all_and P Q r]
    cases P a <;> cases Q a <;> cases r.all P <;> rfl
theorem valB_ms {l : List TV} {o : FT} {v : CV CM} (h : valB l o v = true) (h17 : o.kind ≠ 17) : v.ms = [] := by
  unfold valB at h
  rw [if_neg h17] at h
  refine List.eq_nil_of_length_eq_zero ?_
  by_cases h16 : o.kind = 16
  · rw [if_pos h16, Bool.and_eq_true] at h
    exact fit_ms h.1
  · rw [if_neg h16] at h
    exact fit_ms (scalar_fit h)
/-- One field: what the document asks of it is what the program asks, and that the messages within are typed. -/
theorem fld_eq (l : List TV) (hs : ∀ y ∈ l, ∀ s ∈ y.t.ss, I64 s.num) (T : Nat → CM → Bool) (o : FT) (h0 : 0 ≤ o.lab ∧ o.lab ≤ 5) (hk : o.lab = 5 → kkey o.key = true) (f : CF CM) (hu : ∀ v ∈ f.vs, U64 v.n) : (shapeD o.lab f && (f.vs.all (valD l T o.kind o.ref) && allF (keyD l T o.key f.ks) 0 f.ks.length)) = (fieldB l o f && (allM f).all (T o.ref.toNat)) := by
  unfold fieldB
  rw [shape_eq h0.1 h0.2]
  cases hsh : shapeB o.lab f with
  | false => rfl
  | true =>
    have hv : f.vs.all (valD l T o.kind o.ref) = (f.vs.all (valB l o) && f.vs.all (fun v => v.ms.all (T o.ref.toNat))) := by
      rw [← all_and]
      rw [Bool.eq_iff_iff, List.all_eq_true, List.all_eq_true]
      have e : ∀ v ∈ f.vs, valD l T o.kind o.ref v = (valB l o v && v.ms.all (T o.ref.toNat)) := fun v hv => by
        rw [val_eq l hs T o v (hu v hv)]
        by_cases h17 : o.kind = 17
        · rw [if_pos h17]
        · rw [if_neg h17]
          cases hb : valB l o v with
          | false => rfl
          | true => rw [valB_ms hb h17]; rfl
      exact ⟨fun h v hv => by rw [← e v hv]; exact h v hv, fun h v hv => by rw [e v hv]; exact h v hv⟩
    have hkk : allF (keyD l T o.key f.ks) 0 f.ks.length = ((f.ks.all (scalarB o.key) && keysB o.key f.ks) && f.ks.all (fun v => v.ms.all (T o.ref.toNat))) := by
      by_cases h5 : o.lab = 5
      · rw [keys_eq l T (hk h5)]
        cases ha : f.ks.all (scalarB o.key) with
        | false => rfl
        | true =>
          have : f.ks.all (fun v => v.ms.all (T o.ref.toNat)) = true := by
            rw [List.all_eq_true] at ha ⊢
            intro v hv
            rw [List.eq_nil_of_length_eq_zero (fit_ms (scalar_fit (ha v hv)))]
            rfl
          rw [this, Bool.and_true]
      · have : f.ks.length = 0 := by
          unfold shapeB at hsh
          split at hsh
          · exact of_decide_eq_true hsh
          · first
            | (rw [Bool.and_eq_true, decide_eq_true_eq] at hsh; exact hsh.1)
            | (rw [if_neg h5, Bool.and_eq_true, decide_eq_true_eq] at hsh; exact hsh.1)
        rw [List.eq_nil_of_length_eq_zero this]
        rfl
    unfold allM
    rw [hv, hkk, List.all_append, all_flat, all_flat]
    generalize f.vs.all (valB l o) = b1
    generalize (f.vs.all fun v => v.ms.all (T o.ref.toNat)) = b2
    generalize f.ks.all (scalarB o.key) = b3
    generalize keysB o.key f.ks = b4
    generalize (f.ks.all fun v => v.ms.all (T o.ref.toNat)) = b5
    cases b1 <;> cases b2 <;> cases b3 <;> cases b4 <;> cases b5 <;> rfl
/-- What the document's Typed asks of the messages within, so deep. -/
def keptK (l : List TV) (d : Nat) (k : Nat) (z : CM) : Bool := match l[k]? with
  | some y => keptB l d y z
  | none => false
theorem fldD_at {l : List TV} {T : Nat → CM → Bool} {fs : List FT} {xs : List (CF CM)} {j : Nat} (h : j < xs.length) : fldD l T fs xs j = (hasF fs xs[j].num && (riseAt xs j xs[j].num && (shapeD (ownF fs xs[j].num).lab xs[j] && (xs[j].vs.all (valD l T (ownF fs xs[j].num).kind (ownF fs xs[j].num).ref) && (allF (keyD l T (ownF fs xs[j].num).key xs[j].ks) 0 xs[j].ks.length && !(decide ((ownF fs xs[j].num).lab = 4) && xs.any (othP fs (ownF fs xs[j].num)))))))) := by
  unfold fldD
  rw [List.getElem?_eq_getElem h]
theorem ty_eq (l : List TV) (hg : goodB l = true) (hs : ∀ y ∈ l, ∀ s ∈ y.t.ss, I64 s.num) (x : TV) (hx : x ∈ l) (d : Nat) (m : CM) (hu : ∀ f ∈ m.fs, ∀ v ∈ f.vs, U64 v.n) : tyD l (keptK l d) x.t.fs m = keptB l (d + 1) x m := by
  have hw : keptB l (d + 1) x m = (holdB l entB x m && m.fs.all (fun f => (allM f).all (keptB l d (blwB l x f)))) := rfl
  have hT : ∀ f ∈ m.fs, hasF x.t.fs f.num = true → keptK l d (ownF x.t.fs f.num).ref.toNat = keptB l d (blwB l x f) := fun f hf hh => by
    funext z
    unfold keptK
    rw [blwB_at hg hx hh]
  have hF : ∀ f ∈ m.fs, hasF x.t.fs f.num = true → (shapeD (ownF x.t.fs f.num).lab f && (f.vs.all (valD l (keptK l d) (ownF x.t.fs f.num).kind (ownF x.t.fs f.num).ref) && allF (keyD l (keptK l d) (ownF x.t.fs f.num).key f.ks) 0 f.ks.length)) = (fieldB l (ownF x.t.fs f.num) f && (allM f).all (keptB l d (blwB l x f))) := fun f hf hh => by
    obtain ⟨-, g1, g2⟩ := good_fld hg hx (ownF_hasF hh).1
    rw [← hT f hf hh]
    exact fld_eq l hs _ _ g1 g2 f (hu f hf)
  rw [hw]
  unfold tyD holdB
  rw [Bool.eq_iff_iff]
  simp only [Bool.and_eq_true, List.all_eq_true, allF_iff]
  constructor
  · rintro ⟨h1, h2⟩
    have h3 : ∀ i (hi : i < m.fs.length), hasF x.t.fs m.fs[i].num = true := fun i hi => by
      have := h1 i (by omega) hi
      rw [fldD_at hi, Bool.and_eq_true] at this
      exact this.1
    have h4 : riseM m.fs = true := riseM_iff.2 fun i hi => by
      have := h1 (i + 1) (by omega) hi
      rw [fldD_at hi, Bool.and_eq_true, Bool.and_eq_true, riseAt_succ (by omega)] at this
      exact of_decide_eq_true this.2.1
    have h3m : ∀ f ∈ m.fs, hasF x.t.fs f.num = true := fun f hf => by
      obtain ⟨i, hi, rfl⟩ := List.mem_iff_getElem.1 hf
      exact h3 i hi
    have h5 : ∀ f ∈ m.fs, (fieldB l (ownF x.t.fs f.num) f && (allM f).all (keptB l d (blwB l x f))) = true ∧ (!(decide ((ownF x.t.fs f.num).lab = 4) && m.fs.any (othP x.t.fs (ownF x.t.fs f.num)))) = true := fun f hf => by
      obtain ⟨i, hi, rfl⟩ := List.mem_iff_getElem.1 hf
      have := h1 i (by omega) hi
      rw [fldD_at hi] at this
      simp only [Bool.and_eq_true] at this
      rw [← hF _ hf (h3 i hi)]
      simp only [Bool.and_eq_true]
      exact ⟨⟨this.2.2.1, this.2.2.2.1, this.2.2.2.2.1⟩, this.2.2.2.2.2⟩
    refine ⟨⟨h4, fun f hf => ?_, ?_, h2⟩, fun f hf => ?_⟩
    · unfold typB8
      have := (h5 f hf).1
      rw [Bool.and_eq_true] at this ⊢
      exact ⟨h3m f hf, this.1⟩
    · rw [single_other x.t.fs m.fs (rise_pairs h4) h3m (fun f hf => (ownF_hasF (h3m f hf)).2) (fun f hf e4 => (good_ones hg hx _ (ownF_hasF (h3m f hf)).1 e4).1), List.all_eq_true]
      intro f hf
      have := (h5 f hf).2
      rw [← this]
      congr 2
    · have := (h5 f hf).1
      rw [Bool.and_eq_true, List.all_eq_true] at this
      exact this.2
  · rintro ⟨⟨h4, h6, h7, h2⟩, h8⟩
    have h3m : ∀ f ∈ m.fs, hasF x.t.fs f.num = true := fun f hf => by
      have := h6 f hf
      unfold typB8 at this
      rw [Bool.and_eq_true] at this
      exact this.1
    rw [single_other x.t.fs m.fs (rise_pairs h4) h3m (fun f hf => (ownF_hasF (h3m f hf)).2) (fun f hf e4 => (good_ones hg hx _ (ownF_hasF (h3m f hf)).1 e4).1), List.all_eq_true] at h7
    refine ⟨fun i _ hi => ?_, h2⟩
    have hf := List.getElem_mem hi
    have a1 := h6 _ hf
    unfold typB8 at a1
    rw [Bool.and_eq_true] at a1
    have a2 := hF _ hf (h3m _ hf)
    rw [a1.2, List.all_eq_true.2 (h8 _ hf)] at a2
    simp only [Bool.and_true, Bool.and_eq_true] at a2
    rw [fldD_at hi]
    simp only [Bool.and_eq_true]
    refine ⟨h3m _ hf, ?_, a2.1, a2.2.1, a2.2.2, ?_⟩
    · match i, hi with
      | 0, _ => exact riseAt_zero
      | i + 1, hi =>
        rw [riseAt_succ (by omega)]
        exact decide_eq_true ((riseM_iff.1 h4) i hi)
    · rw [← h7 _ hf]
      congr 2
end Go.Proofs.YtnfdlnelfnigdaaGreatDoor
