/-
  Walks over PutEntry, the program's and the document's.
-/
import Derived.Test.YtaedbgdjjnkloaaWO
namespace Go.Proofs.Ytaedbgdjjnkloaa
open Go.RowKit

/-- The bytes of an entry; none where it has a fault. -/
def pp (num kind n : Int) (ys : List Int) : List Int := if ef num kind n ys.length = 0 then pe num kind n ys else []

set_option maxHeartbeats 400000 in
theorem putEntryNo (num kind n : Int) (a : Option Addr) (len cap : Nat) (w : World) (hl : len ≤ 9223372036854775807) (he : ef num kind n len ≠ 0) :
    Calls Try.prog 22 #[.agg #[.int .i64 num, .int .i64 kind, .int .u64 n, .slice a len cap]] w fun e w' => e = .returned (.tuple #[.slice none 0 0, .int .i64 (ef num kind n len)]) ∧ Below w.heap.size w w' := by
  have hne : (ef num kind n len != 0) = true := by simp [he]
  clear he
  go_enter Try.func22, Try.ntmps22
  go_wp2_with fail
  refine (entryFaultW _ _ _ _ _ _ _ hl).mono ?_
  rintro e w1 ⟨rfl, hb1⟩
  go_wp2
  go_ret2
  exact ⟨rfl, below_trans (below_alloc _) hb1⟩

set_option maxHeartbeats 400000 in
theorem putEntryYes (num kind n : Int) (a : Option Addr) (len cap : Nat) (ys : List Int) (w : World) (hr : Reads w a len cap ys) (he : ef num kind n len = 0) (hn0 : 0 ≤ n) (hn1 : n < 18446744073709551616) (hm : 20 + len ≤ 140737488355328) :
    Calls Try.prog 22 #[.agg #[.int .i64 num, .int .i64 kind, .int .u64 n, .slice a len cap]] w fun e w' => ∃ v, e = .returned (.tuple #[v, .int .i64 0]) ∧ w'.ownsRow w.heap.size 5 1 v (pe num kind n ys).length ((pe num kind n ys).map (Value.int .u8)) ∧ Below w.heap.size w w' := by
  have HE := hid he
  have HT := hid (ef_ok he).1
  have HR := hid hr
  have hl : len ≤ 9223372036854775807 := Nat.le_trans hr.le hr.max
  clear he hr
  go_enter Try.func22, Try.ntmps22
  go_wp2_with fail
  refine (entryFaultW _ _ _ _ _ _ _ hl).mono ?_
  rw [HE.out]
  rintro e w1 ⟨rfl, hb1⟩
  have hb := below_trans (below_alloc (.cells #[.int .i64 num, .int .i64 kind, .int .u64 n, .slice a len cap] 45)) hb1
  have c0 : w1.cell? ⟨w.heap.size, 0, none⟩ = some (.int .i64 num) := by rw [hb1.cell (p := ⟨w.heap.size, 0, none⟩) (by simp), World.cell?_alloc_at _ _ _ _ rfl]; rfl
  have c1 : w1.cell? ⟨w.heap.size, 1, none⟩ = some (.int .i64 kind) := by rw [hb1.cell (p := ⟨w.heap.size, 1, none⟩) (by simp), World.cell?_alloc_at _ _ _ _ rfl]; rfl
  have c2 : w1.cell? ⟨w.heap.size, 2, none⟩ = some (.int .u64 n) := by rw [hb1.cell (p := ⟨w.heap.size, 2, none⟩) (by simp), World.cell?_alloc_at _ _ _ _ rfl]; rfl
  have c3 : w1.cell? ⟨w.heap.size, 3, none⟩ = some (.slice a len cap) := by rw [hb1.cell (p := ⟨w.heap.size, 3, none⟩) (by simp), World.cell?_alloc_at _ _ _ _ rfl]; rfl
  have hsz : w.heap.size ≤ w1.heap.size := hb.size
  have HB := hid hb
  clear hb hb1
  go_wp2_with fail
  refine (addEntryW w.heap.size _ 0 [] num kind n a len cap ys _ (World.ownsRow_nil _ _ _ _) hsz (fun w' h => reads_kept HR.out (HB.out.trans h)) HT.out hn0 hn1 (by omega)).mono ?_
  rintro e w3 ⟨v3, rfl, ho3, hg3⟩
  go_wp2
  go_ret2
  refine ⟨v3, rfl, by simpa using ho3, HB.out.trans (hg3.below hsz (fun k hk => by cases hk))⟩

/-- PutEntry's answer as a slice that can be read. -/
theorem putEntryAny (num kind n : Int) (a : Option Addr) (len cap : Nat) (ys : List Int) (w : World) (hr : Reads w a len cap ys) (hn0 : 0 ≤ n) (hn1 : n < 18446744073709551616) (hm : 20 + len ≤ 140737488355328) :
    Calls Try.prog 22 #[.agg #[.int .i64 num, .int .i64 kind, .int .u64 n, .slice a len cap]] w fun e w' => ∃ b c, e = .returned (.tuple #[.slice b (pp num kind n ys).length c, .int .i64 (ef num kind n len)]) ∧ Reads w' b (pp num kind n ys).length c (pp num kind n ys) ∧ Below w.heap.size w w' := by
  have hlen := hr.length
  by_cases he : ef num kind n len = 0
  · refine (putEntryYes num kind n a len cap ys w hr he hn0 hn1 hm).mono ?_
    rintro e w' ⟨v, rfl, ho, hb⟩
    obtain ⟨b, c, rfl, hr2⟩ := own_reads ho (pe_bd (ef_ok he).1 hn0 hn1 (bd_mem hr.bd) (by omega))
    have e1 : pp num kind n ys = pe num kind n ys := by rw [pp, hlen, if_pos he]
    rw [e1, he]
    exact ⟨b, c, rfl, hr2, hb⟩
  · refine (putEntryNo num kind n a len cap w (Nat.le_trans hr.le hr.max) he).mono ?_
    rintro e w' ⟨rfl, hb⟩
    have e1 : pp num kind n ys = [] := by rw [pp, hlen, if_neg he]
    rw [e1]
    exact ⟨none, 0, rfl, reads_nil _, hb⟩

set_option maxHeartbeats 400000 in
theorem fineR (num kind n : Int) (a : Option Addr) (len cap : Nat) (w : World) :
    Calls Try.prog 54 #[.agg #[.int .i64 num, .int .i64 kind, .int .u64 n, .slice a len cap]] w fun e w' => e = .returned (.bool (fit kind n len)) ∧ Below w.heap.size w w' := by
  by_cases h2 : kind = 2
  · subst h2
    by_cases hz : n = 0
    · subst hz
      have HF : fit 2 0 len = true := by simp [fit]
      rw [HF]
      clear HF
      go_enter Try.func54, Try.ntmps54
      go_wp2
      go_ret
      exact ⟨rfl, below_alloc _⟩
    · have HF : fit 2 n len = false := by simp [fit, hz]
      have hzb : (n == 0) = false := by simp [hz]
      clear hz
      rw [HF]
      clear HF
      go_enter Try.func54, Try.ntmps54
      go_wp2
      go_ret
      exact ⟨rfl, below_alloc _⟩
  · have hk2 : (kind == 2) = false := by simp [h2]
    by_cases hl : len = 0
    · subst hl
      by_cases h5 : kind = 5
      · subst h5
        by_cases hn : n ≤ 4294967295
        · have HF : fit 5 n 0 = true := by simp [fit, hn]
          have hd : decide (n < 4294967296) = true := by simp; omega
          rw [HF]
          clear HF
          go_enter Try.func54, Try.ntmps54
          go_wp2
          go_ret
          exact ⟨rfl, below_alloc _⟩
        · have HF : fit 5 n 0 = false := by simp [fit, hn]
          have hd : decide (n < 4294967296) = false := by simp; omega
          rw [HF]
          clear HF
          go_enter Try.func54, Try.ntmps54
          go_wp2
          go_ret
          exact ⟨rfl, below_alloc _⟩
      · have HF : fit kind n 0 = true := by simp [fit, h2, h5]
        have hd : (kind != 5) = true := by simp [h5]
        clear h2 h5
        rw [HF]
        clear HF
        go_enter Try.func54, Try.ntmps54
        go_wp2
        go_ret
        exact ⟨rfl, below_alloc _⟩
    · have HF : fit kind n len = false := by simp [fit, h2, hl]
      have hd : ((len : Int) == 0) = false := by simp [hl]
      clear h2 hl
      rw [HF]
      clear HF
      go_enter Try.func54, Try.ntmps54
      go_wp2
      go_ret
      exact ⟨rfl, below_alloc _⟩

set_option maxHeartbeats 400000 in
theorem refPutEntryTag (num kind n : Int) (a : Option Addr) (len cap : Nat) (w : World) (ht : tf num kind ≠ 0) :
    Calls Try.prog 41 #[.agg #[.int .i64 num, .int .i64 kind, .int .u64 n, .slice a len cap]] w fun e w' => e = .returned (.tuple #[.slice none 0 0, .int .i64 (tf num kind)]) ∧ Below w.heap.size w w' := by
  have HT := hid ht
  have hne : (tf num kind != 0) = true := by simp [ht]
  clear ht
  go_enter Try.func41, Try.ntmps41
  go_wp2_with fail
  refine (refPutTagNo _ _ _ HT.out).mono ?_
  rintro e w1 ⟨rfl, rfl⟩
  go_wp2
  go_ret2
  exact ⟨rfl, below_alloc _⟩

set_option maxHeartbeats 1000000 in
theorem refPutEntryFine (num kind n : Int) (a : Option Addr) (len cap : Nat) (w : World) (ht : tf num kind = 0) (hf : fit kind n len = false) :
    Calls Try.prog 41 #[.agg #[.int .i64 num, .int .i64 kind, .int .u64 n, .slice a len cap]] w fun e w' => e = .returned (.tuple #[.slice none 0 0, .int .i64 7]) ∧ Below w.heap.size w w' := by
  have HT := hid ht
  have HF := hid hf
  clear ht hf
  go_enter Try.func41, Try.ntmps41
  go_wp2_with fail
  refine (refPutTagYes _ _ _ HT.out).mono ?_
  rintro e w1 ⟨v1, rfl, ho1, hb1⟩
  have hb := below_trans (below_alloc (.cells #[.int .i64 num, .int .i64 kind, .int .u64 n, .slice a len cap] 45)) hb1
  have c0 : w1.cell? ⟨w.heap.size, 0, none⟩ = some (.int .i64 num) := by rw [hb1.cell (p := ⟨w.heap.size, 0, none⟩) (by simp), World.cell?_alloc_at _ _ _ _ rfl]; rfl
  have c1 : w1.cell? ⟨w.heap.size, 1, none⟩ = some (.int .i64 kind) := by rw [hb1.cell (p := ⟨w.heap.size, 1, none⟩) (by simp), World.cell?_alloc_at _ _ _ _ rfl]; rfl
  have c2 : w1.cell? ⟨w.heap.size, 2, none⟩ = some (.int .u64 n) := by rw [hb1.cell (p := ⟨w.heap.size, 2, none⟩) (by simp), World.cell?_alloc_at _ _ _ _ rfl]; rfl
  have c3 : w1.cell? ⟨w.heap.size, 3, none⟩ = some (.slice a len cap) := by rw [hb1.cell (p := ⟨w.heap.size, 3, none⟩) (by simp), World.cell?_alloc_at _ _ _ _ rfl]; rfl
  clear hb1 ho1
  go_wp2_with fail
  refine (fineR _ _ _ _ _ _ _).mono ?_
  rw [HF.out]
  rintro e w2 ⟨rfl, hb2⟩
  go_wp2
  go_ret2
  exact ⟨rfl, below_trans hb hb2⟩

theorem own_kept {w w' : World} {base e size n : Nat} {v : Value} {xs : List Value} (h : w.ownsRow base e size v n xs) (hb : Below w.heap.size w w') : w'.ownsRow base e size v n xs :=
  h.kept (row := none) ⟨hb.os, hb.tape, hb.output, hb.size, fun k hk _ => hb.block k hk⟩ (by cases hv : v.ownBlock <;> simp)
theorem own_mono {w : World} {base base' e size n : Nat} {v : Value} {xs : List Value} (h : w.ownsRow base e size v n xs) (hb : base' ≤ base) : w.ownsRow base' e size v n xs := by
  refine ⟨h.1, h.2.imp id ?_⟩
  rintro ⟨g, cap, cur, h1, h2, h3⟩
  exact ⟨g, cap, cur, h1, Nat.le_trans hb h2, h3⟩
theorem own_cat3 {w : World} {base : Nat} {v : Value} {ps ys zs : List Int} (h : w.ownsRow base 5 1 v (ps.length + ys.length) (ps.map (Value.int .u8) ++ ys.map (Value.int .u8))) (e : zs = ps ++ ys) :
    w.ownsRow base 5 1 v zs.length (zs.map (Value.int .u8)) := by
  subst e
  simpa using h

set_option maxHeartbeats 1000000 in
theorem refPutEntryYes (num kind n : Int) (a : Option Addr) (len cap : Nat) (ys : List Int) (w : World) (hr : Reads w a len cap ys) (ht : tf num kind = 0) (hf : fit kind n len = true) (hn0 : 0 ≤ n) (hn1 : n < 18446744073709551616) (hm : 20 + len ≤ 140737488355328) :
    Calls Try.prog 41 #[.agg #[.int .i64 num, .int .i64 kind, .int .u64 n, .slice a len cap]] w fun e w' => ∃ v, e = .returned (.tuple #[v, .int .i64 0]) ∧ w'.ownsRow w.heap.size 5 1 v (pe num kind n ys).length ((pe num kind n ys).map (Value.int .u8)) ∧ Below w.heap.size w w' := by
  have HT := hid ht
  have HF := hid hf
  have HR := hid hr
  have hlen := hr.length
  have HL := hid hlen
  have hpl := (pv_len (num * 8 + kind)).2
  have hpn := (pv_len n).2
  have hpl2 := (pv_len (len : Int)).2
  have hk2 := okK_cases (tf_ok ht).2.2
  clear ht hf hr hlen
  go_enter Try.func41, Try.ntmps41
  go_wp2_with fail
  refine (refPutTagYes _ _ _ HT.out).mono ?_
  rintro e w1 ⟨v1, rfl, ho1, hb1⟩
  have hb := below_trans (below_alloc (.cells #[.int .i64 num, .int .i64 kind, .int .u64 n, .slice a len cap] 45)) hb1
  have c0 : w1.cell? ⟨w.heap.size, 0, none⟩ = some (.int .i64 num) := by rw [hb1.cell (p := ⟨w.heap.size, 0, none⟩) (by simp), World.cell?_alloc_at _ _ _ _ rfl]; rfl
  have c1 : w1.cell? ⟨w.heap.size, 1, none⟩ = some (.int .i64 kind) := by rw [hb1.cell (p := ⟨w.heap.size, 1, none⟩) (by simp), World.cell?_alloc_at _ _ _ _ rfl]; rfl
  have c2 : w1.cell? ⟨w.heap.size, 2, none⟩ = some (.int .u64 n) := by rw [hb1.cell (p := ⟨w.heap.size, 2, none⟩) (by simp), World.cell?_alloc_at _ _ _ _ rfl]; rfl
  have c3 : w1.cell? ⟨w.heap.size, 3, none⟩ = some (.slice a len cap) := by rw [hb1.cell (p := ⟨w.heap.size, 3, none⟩) (by simp), World.cell?_alloc_at _ _ _ _ rfl]; rfl
  have ho1' : w1.ownsRow (w.heap.size + 1) 5 1 v1 (pv (num * 8 + kind)).length ((pv (num * 8 + kind)).map (Value.int .u8)) := own_mono ho1 (by simp)
  have hs1 : w.heap.size + 1 ≤ w1.heap.size := by have := hb1.size; simpa using this
  have HO1 := hid ho1'
  clear hb1 ho1 ho1'
  go_wp2_with fail
  refine (fineR _ _ _ _ _ _ _).mono ?_
  rw [HF.out]
  rintro e w2 ⟨rfl, hb2⟩
  have d1 : w2.cell? ⟨w.heap.size, 1, none⟩ = some (.int .i64 kind) := by rw [hb2.cell (p := ⟨w.heap.size, 1, none⟩) (by show w.heap.size < _; omega)]; exact c1
  have d2 : w2.cell? ⟨w.heap.size, 2, none⟩ = some (.int .u64 n) := by rw [hb2.cell (p := ⟨w.heap.size, 2, none⟩) (by show w.heap.size < _; omega)]; exact c2
  have d3 : w2.cell? ⟨w.heap.size, 3, none⟩ = some (.slice a len cap) := by rw [hb2.cell (p := ⟨w.heap.size, 3, none⟩) (by show w.heap.size < _; omega)]; exact c3
  have hsz2 : w.heap.size + 1 ≤ w2.heap.size := Nat.le_trans hs1 hb2.size
  have HO := hid (own_kept HO1.out hb2)
  have HB := hid (below_trans hb hb2)
  clear c0 c1 c2 c3 hb hb2 HO1
  rcases hk2 with rfl | rfl | rfl | rfl
  · go_wp2_with fail
    refine (putvRr n _ hn0 hn1).mono ?_
    rintro e w3 ⟨b3, k3, rfl, hr3, hb3⟩
    obtain ⟨v', w4, hr, hown', hg'⟩ := append_bytes (w.heap.size + 1) v1 _ _ w3 b3 _ k3 _ (own_kept HO.out hb3) (Nat.le_trans hsz2 hb3.size) hr3 (by omega)
    have HR4 := hid hr
    have HB3 := hid hb3
    clear hr hr3 hb3
    go_wp2_with (first | (at_builtin; refine wpList_append_ran rfl _ _ 22 22 rfl rfl _ _ v' w4 rfl rfl HR4.out ?_))
    go_ret2
    exact ⟨v', rfl, own_mono (own_cat3 hown' rfl) (by omega), HB.out.trans ((HB3.out.mono (by omega)).trans (hg'.below (by have := HB3.out.size; omega) (fun k hk => by have := (HO.out.lt k hk).1; omega)))⟩
  · go_wp2_with fail
    refine (putWordRr n 8 _ (by omega)).mono ?_
    rintro e w3 ⟨b3, k3, rfl, hr3, hb3⟩
    obtain ⟨v', w4, hr, hown', hg'⟩ := append_bytes (w.heap.size + 1) v1 _ _ w3 b3 _ k3 _ (own_kept HO.out hb3) (Nat.le_trans hsz2 hb3.size) hr3 (by rw [pw_length]; omega)
    have HR4 := hid hr
    have HB3 := hid hb3
    clear hr hr3 hb3
    go_wp2_with (first | (at_builtin; refine wpList_append_ran rfl _ _ 22 22 rfl rfl _ _ v' w4 rfl rfl HR4.out ?_))
    go_ret2
    exact ⟨v', rfl, own_mono (own_cat3 hown' rfl) (by omega), HB.out.trans ((HB3.out.mono (by omega)).trans (hg'.below (by have := HB3.out.size; omega) (fun k hk => by have := (HO.out.lt k hk).1; omega)))⟩
  · go_wp2_with fail
    refine (putChunkRr a len cap ys _ (reads_kept HR.out HB.out) (by omega)).mono ?_
    rintro e w3 ⟨b3, k3, rfl, hr3, hb3⟩
    obtain ⟨v', w4, hr, hown', hg'⟩ := append_bytes (w.heap.size + 1) v1 _ _ w3 b3 _ k3 _ (own_kept HO.out hb3) (Nat.le_trans hsz2 hb3.size) hr3 (by have := HL.out; rw [pc, List.length_append, this]; omega)
    have HR4 := hid hr
    have HB3 := hid hb3
    clear hr hr3 hb3
    go_wp2_with (first | (at_builtin; refine wpList_append_ran rfl _ _ 22 22 rfl rfl _ _ v' w4 rfl rfl HR4.out ?_))
    go_ret2
    exact ⟨v', rfl, own_mono (own_cat3 hown' rfl) (by omega), HB.out.trans ((HB3.out.mono (by omega)).trans (hg'.below (by have := HB3.out.size; omega) (fun k hk => by have := (HO.out.lt k hk).1; omega)))⟩
  · go_wp2_with fail
    refine (putWordRr n 4 _ (by omega)).mono ?_
    rintro e w3 ⟨b3, k3, rfl, hr3, hb3⟩
    obtain ⟨v', w4, hr, hown', hg'⟩ := append_bytes (w.heap.size + 1) v1 _ _ w3 b3 _ k3 _ (own_kept HO.out hb3) (Nat.le_trans hsz2 hb3.size) hr3 (by rw [pw_length]; omega)
    have HR4 := hid hr
    have HB3 := hid hb3
    clear hr hr3 hb3
    go_wp2_with (first | (at_builtin; refine wpList_append_ran rfl _ _ 22 22 rfl rfl _ _ v' w4 rfl rfl HR4.out ?_))
    go_ret2
    exact ⟨v', rfl, own_mono (own_cat3 hown' rfl) (by omega), HB.out.trans ((HB3.out.mono (by omega)).trans (hg'.below (by have := HB3.out.size; omega) (fun k hk => by have := (HO.out.lt k hk).1; omega)))⟩

/-- The document's PutEntry's answer as a slice that can be read. -/
theorem refPutEntryAny (num kind n : Int) (a : Option Addr) (len cap : Nat) (ys : List Int) (w : World) (hr : Reads w a len cap ys) (hn0 : 0 ≤ n) (hn1 : n < 18446744073709551616) (hm : 20 + len ≤ 140737488355328) :
    Calls Try.prog 41 #[.agg #[.int .i64 num, .int .i64 kind, .int .u64 n, .slice a len cap]] w fun e w' => ∃ b c, e = .returned (.tuple #[.slice b (pp num kind n ys).length c, .int .i64 (ef num kind n len)]) ∧ Reads w' b (pp num kind n ys).length c (pp num kind n ys) ∧ Below w.heap.size w w' := by
  have hlen := hr.length
  by_cases ht : tf num kind = 0
  · cases hf : fit kind n len with
    | true =>
      have he : ef num kind n len = 0 := by rw [ef_fit ht, if_pos hf]
      refine (refPutEntryYes num kind n a len cap ys w hr ht hf hn0 hn1 hm).mono ?_
      rintro e w' ⟨v, rfl, ho, hb⟩
      obtain ⟨b, c, rfl, hr2⟩ := own_reads ho (pe_bd ht hn0 hn1 (bd_mem hr.bd) (by omega))
      have e1 : pp num kind n ys = pe num kind n ys := by rw [pp, hlen, if_pos he]
      rw [e1, he]
      exact ⟨b, c, rfl, hr2, hb⟩
    | false =>
      have he : ef num kind n len = 7 := by rw [ef_fit ht, if_neg (by simp [hf])]
      refine (refPutEntryFine num kind n a len cap w ht hf).mono ?_
      rintro e w' ⟨rfl, hb⟩
      have e1 : pp num kind n ys = [] := by rw [pp, hlen, if_neg (by rw [he]; decide)]
      rw [e1, he]
      exact ⟨none, 0, rfl, reads_nil _, hb⟩
  · have he : ef num kind n len = tf num kind := ef_tf ht
    refine (refPutEntryTag num kind n a len cap w ht).mono ?_
    rintro e w' ⟨rfl, hb⟩
    have e1 : pp num kind n ys = [] := by rw [pp, hlen, if_neg (by rw [he]; exact ht)]
    rw [e1, he]
    exact ⟨none, 0, rfl, reads_nil _, hb⟩
end Go.Proofs.Ytaedbgdjjnkloaa
