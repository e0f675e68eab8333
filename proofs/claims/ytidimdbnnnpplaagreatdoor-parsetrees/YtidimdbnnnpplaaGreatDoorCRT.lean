/-
  The document's form of a type.
  The document's form of a field.
-/
import Derived.Test.YtidimdbnnnpplaaGreatDoorCPB
import Derived.Test.YtidimdbnnnpplaaGreatDoorCPE
import Derived.Deep.CutRange
namespace Go.Proofs.YtidimdbnnnpplaaGreatDoor
open Go.RowKit
set_option maxRecDepth 1000000
set_option linter.unusedVariables false
set_option linter.unusedSimpArgs false
set_option maxHeartbeats 1500000
/-- How much is left, as it lies in memory. -/
def muW (w : World) (p : Nat) : Nat := match w.cell? ⟨p, 0, none⟩, w.cell? ⟨p, 1, none⟩ with
  | some (.slice _ n _), some (.int _ c) => if c = 0 then n + 1 else 0
  | _, _ => 0
theorem muW_is {w : World} {p : Nat} {t : TypeId} {b o c : Nat} {s : PS} (h : Blk w p t #[.slice (some ⟨b, o, none⟩) s.l.length c, .int .i64 s.cd, .int .i64 0, .int .i64 s.ln, .int .i64 s.cl]) : muW w p = muM s := by
  unfold muW muM
  rw [h.cellF 0, h.cellF 1]
  rfl
theorem str_add (xs ys : List Int) : strOfNums xs ++ strOfNums ys = strOfNums (xs ++ ys) := by
  apply ByteArray.ext
  rw [ByteArray.data_append]
  apply Array.toList_inj.1
  simp [strOfNums_data]
theorem typLr_go {t : List Int} {s : PS} (h : isM s [46] = true) : typL (t, s) = typL (t ++ 46 :: (takeM (eatM s [46]) 1).1.s, (takeM (eatM s [46]) 1).2) := by
  unfold typL
  exact whM_go (p := fun x : List Int × PS => x.2) (x := (t, s)) typ_dec h
theorem typLr_stop {t : List Int} {s : PS} (h : isM s [46] = false) : typL (t, s) = (t, s) := by
  unfold typL
  exact whM_stop h
section
variable (w0 : World) (b off cap : Nat) (s : PS) (w : World)
theorem typR (h : StR w0 b off cap s) (hb : Below w0.heap.size w0 w) : Calls Tryz.prog 104 #[.agg #[.slice (some ⟨b, off, none⟩) s.l.length cap, .int .i64 s.cd, .int .i64 0, .int .i64 s.ln, .int .i64 s.cl]] w fun e w' => (∃ t pl s' o c, Hid (t = (typM s).1) ∧ Hid (pl = (typM s).2.1) ∧ Hid (s' = (typM s).2.2) ∧ e = .returned (.tuple #[.string (strOfNums t), .agg #[.int .i64 pl.1, .int .i64 pl.2], .agg #[.slice (some ⟨b, o, none⟩) s'.l.length c, .int .i64 s'.cd, .int .i64 0, .int .i64 s'.ln, .int .i64 s'.cl]]) ∧ Hid (∀ c ∈ t, 0 ≤ c ∧ c ≤ 255) ∧ Hid (StR w0 b o c s')) ∧ Below w.heap.size w w' := by
  have HB := hid hb
  have HT := hid (takeR w0 b off cap s)
  have HW := hid h
  clear h hb
  have hb0 : Hid (Below w.heap.size w w) := hid (Below.refl _ _)
  go_enter Tryz.func104, Tryz.ntmps104
  go_wp2_with fail
  refine (HT.out _ 1 (by decide) (by decide) HW.out (bl_then HB.out (by have := hb0.out; exact blBy))).mono ?_
  rintro e w1 ⟨⟨m1, s1, sa, sc, o1, c1, hm1, he1, rfl, hr1, hk1, hst1⟩, hb1⟩
  have Bs : Blk w1 (w.heap.size) 54 #[.slice (some ⟨b, off, none⟩) s.l.length cap, .int .i64 s.cd, .int .i64 0, .int .i64 s.ln, .int .i64 s.cl] := Blk.kept ((((Blk.newAt (by simp)).kept (below_alloc _)).kept (below_alloc _)).is (by first | rfl | simp)) hb1
  have Br3 : Blk w1 (w.heap.size + 1) 64 #[.int .i64 0, .int .i64 0] := Blk.kept (((Blk.newAt (by simp)).kept (below_alloc _)).is (by first | rfl | simp)) hb1
  have Br4 : Blk w1 (w.heap.size + 1 + 1) 54 #[.slice none 0 0, .int .i64 0, .int .i64 0, .int .i64 0, .int .i64 0] := Blk.kept ((Blk.newAt (by simp)).is (by first | rfl | simp)) hb1
  have hs1 := hb1.size
  try simp at hs1
  have xs := Bs.cellF
  have ys := Bs.frz
  have zs : w.heap.size < w1.heap.size := by omega
  have xr3 := Br3.cellF
  have yr3 := Br3.frz
  have zr3 : w.heap.size + 1 < w1.heap.size := by omega
  have xr4 := Br4.cellF
  have yr4 := Br4.frz
  have zr4 : w.heap.size + 1 + 1 < w1.heap.size := by omega
  replace hb1 : Hid (Below w.heap.size w w1) := hid (bl_then (by have := hb0.out; exact blBy) hb1)
  have HM : Hid (m1.s.length ≤ 65536) := hid hk1.out.sl
  have HMU : Hid (muM s1 ≤ 70001) := hid (by unfold muM; split; (have := hst1.out.ws.len; omega); omega)
  go_wp2
  go_loopw [6] (fun r wr => ∃ t s2 o2 c2, r = .string (strOfNums t) ∧ Hid (typL (m1.s, s1) = typL (t, s2)) ∧ Hid (StR w0 b o2 c2 s2) ∧ Hid (∀ c ∈ t, 0 ≤ c ∧ c ≤ 255) ∧ Hid (t.length + 70000 * muM s2 ≤ 65536 + 70000 * 70001) ∧ Hid (Below w.heap.size w wr) ∧ Hid (w1.heap.size < wr.heap.size) ∧ Hid (Blk wr (w.heap.size) 54 #[.slice (some ⟨b, o2, none⟩) s2.l.length c2, .int .i64 s2.cd, .int .i64 0, .int .i64 s2.ln, .int .i64 s2.cl]) ∧ Hid (Blk wr (w.heap.size + 1) 64 #[.int .i64 0, .int .i64 0]) ∧ Hid (Blk wr (w.heap.size + 1 + 1) 54 #[.slice none 0 0, .int .i64 0, .int .i64 0, .int .i64 0, .int .i64 0]) ∧ Hid (Blk wr (w1.heap.size) 58 #[.int .i64 m1.kind, .string (strOfNums m1.s), .int .u64 m1.n, .slice sa m1.b.length sc, .int .i64 m1.line, .int .i64 m1.col])) (fun _ wr => muW wr w.heap.size)
  case atStart => exact ⟨m1.s, s1, o1, c1, rfl, hid rfl, hst1, hid hk1.out.bd, hid (by have := HM.out; have := HMU.out; omega), hid (by have := hb1.out; exact blBy), hid (by simp), hid (((blkall5 Bs).kept (below_alloc _)).is (by first | rfl | simp)), hid (((blkoth5 Br3 (show w.heap.size + 1 ≠ w.heap.size by omega)).kept (below_alloc _)).is (by first | rfl | simp)), hid (((blkoth5 Br4 (show w.heap.size + 1 + 1 ≠ w.heap.size by omega)).kept (below_alloc _)).is (by first | rfl | simp)), hid ((Blk.newAt (by simp)).is (by first | rfl | simp))⟩
  case round =>
    obtain ⟨t, s2, o2, c2, rfl, hty, hst2, hbd, hln, hb0, hsz, BS, B3, B4, BM⟩ := hrel
    have Bs := BS.out
    have Br3 := B3.out
    have Br4 := B4.out
    have Bm := BM.out
    have hsz := hsz.out
    have xs := Bs.cellF
    have ys := Bs.frz
    have zs : w.heap.size < wr.heap.size := by omega
    have xr3 := Br3.cellF
    have yr3 := Br3.frz
    have zr3 : w.heap.size + 1 < wr.heap.size := by omega
    have xr4 := Br4.cellF
    have yr4 := Br4.frz
    have zr4 : w.heap.size + 1 + 1 < wr.heap.size := by omega
    have xm := Bm.cellF
    have ym := Bm.frz
    have zm : w1.heap.size < wr.heap.size := by omega
    have hm0 := muW_is Bs
    cases hi : isM s2 [46] with
    | true =>
      have HTY := hid (typLr_go (t := t) hi)
      go_wp2_with fail
      refine (isR w0 b o2 c2 s2 _ ⟨#[46]⟩ [46] rfl (by decide) hst2.out (bl_then HB.out (by have := hb0.out; exact blBy))).mono ?_
      rintro e v1 ⟨rfl, hb1⟩
      replace Bs : Blk v1 (w.heap.size) 54 #[.slice (some ⟨b, o2, none⟩) s2.l.length c2, .int .i64 s2.cd, .int .i64 0, .int .i64 s2.ln, .int .i64 s2.cl] := Blk.kept (Bs.is (by first | rfl | simp)) hb1
      replace Br3 : Blk v1 (w.heap.size + 1) 64 #[.int .i64 0, .int .i64 0] := Blk.kept (Br3.is (by first | rfl | simp)) hb1
      replace Br4 : Blk v1 (w.heap.size + 1 + 1) 54 #[.slice none 0 0, .int .i64 0, .int .i64 0, .int .i64 0, .int .i64 0] := Blk.kept (Br4.is (by first | rfl | simp)) hb1
      replace Bm : Blk v1 (w1.heap.size) 58 #[.int .i64 m1.kind, .string (strOfNums m1.s), .int .u64 m1.n, .slice sa m1.b.length sc, .int .i64 m1.line, .int .i64 m1.col] := Blk.kept (Bm.is (by first | rfl | simp)) hb1
      clear xs ys xr3 yr3 xr4 yr4 xm ym
      have hs1 := hb1.size
      try simp at hs1
      have xs := Bs.cellF
      have ys := Bs.frz
      replace zs : w.heap.size < v1.heap.size := by omega
      have xr3 := Br3.cellF
      have yr3 := Br3.frz
      replace zr3 : w.heap.size + 1 < v1.heap.size := by omega
      have xr4 := Br4.cellF
      have yr4 := Br4.frz
      replace zr4 : w.heap.size + 1 + 1 < v1.heap.size := by omega
      have xm := Bm.cellF
      have ym := Bm.frz
      replace zm : w1.heap.size < v1.heap.size := by omega
      replace hb1 : Hid (Below w.heap.size w v1) := hid (bl_then (by have := hb0.out; exact blBy) hb1)
      rw [hi]
      go_wp2_with fail
      refine (eatR w0 b o2 c2 s2 _ ⟨#[46]⟩ [46] rfl (by decide) hst2.out (bl_then HB.out (by have := hb1.out; exact blBy))).mono ?_
      rintro e v2 ⟨⟨s3, o3, c3, he3, rfl, hst3⟩, hb2⟩
      replace Bs : Blk v2 (w.heap.size) 54 #[.slice (some ⟨b, o2, none⟩) s2.l.length c2, .int .i64 s2.cd, .int .i64 0, .int .i64 s2.ln, .int .i64 s2.cl] := Blk.kept (Bs.is (by first | rfl | simp)) hb2
      replace Br3 : Blk v2 (w.heap.size + 1) 64 #[.int .i64 0, .int .i64 0] := Blk.kept (Br3.is (by first | rfl | simp)) hb2
      replace Br4 : Blk v2 (w.heap.size + 1 + 1) 54 #[.slice none 0 0, .int .i64 0, .int .i64 0, .int .i64 0, .int .i64 0] := Blk.kept (Br4.is (by first | rfl | simp)) hb2
      replace Bm : Blk v2 (w1.heap.size) 58 #[.int .i64 m1.kind, .string (strOfNums m1.s), .int .u64 m1.n, .slice sa m1.b.length sc, .int .i64 m1.line, .int .i64 m1.col] := Blk.kept (Bm.is (by first | rfl | simp)) hb2
      clear xs ys xr3 yr3 xr4 yr4 xm ym
      have hs2 := hb2.size
      try simp at hs2
      have xs := Bs.cellF
      have ys := Bs.frz
      replace zs : w.heap.size < v2.heap.size := by omega
      have xr3 := Br3.cellF
      have yr3 := Br3.frz
      replace zr3 : w.heap.size + 1 < v2.heap.size := by omega
      have xr4 := Br4.cellF
      have yr4 := Br4.frz
      replace zr4 : w.heap.size + 1 + 1 < v2.heap.size := by omega
      have xm := Bm.cellF
      have ym := Bm.frz
      replace zm : w1.heap.size < v2.heap.size := by omega
      replace hb2 : Hid (Below w.heap.size w v2) := hid (bl_then (by have := hb1.out; exact blBy) hb2)
      replace hst3 := hid hst3
      go_wp2_with fail
      refine (takeR w0 b o3 c3 s3 _ 1 (by decide) (by decide) hst3.out (bl_then HB.out (by have := hb2.out; exact blBy))).mono ?_
      rintro e v3 ⟨⟨m4, s4, ta, tc, o4, c4, hm4, he4, rfl, hr4, hk4, hst4⟩, hb3⟩
      replace Bs : Blk v3 (w.heap.size) 54 #[.slice (some ⟨b, o3, none⟩) s3.l.length c3, .int .i64 s3.cd, .int .i64 0, .int .i64 s3.ln, .int .i64 s3.cl] := Blk.kept ((blkall5 Bs).is (by first | rfl | simp)) hb3
      replace Br3 : Blk v3 (w.heap.size + 1) 64 #[.int .i64 0, .int .i64 0] := Blk.kept ((blkoth5 Br3 (show w.heap.size + 1 ≠ w.heap.size by omega)).is (by first | rfl | simp)) hb3
      replace Br4 : Blk v3 (w.heap.size + 1 + 1) 54 #[.slice none 0 0, .int .i64 0, .int .i64 0, .int .i64 0, .int .i64 0] := Blk.kept ((blkoth5 Br4 (show w.heap.size + 1 + 1 ≠ w.heap.size by omega)).is (by first | rfl | simp)) hb3
      replace Bm : Blk v3 (w1.heap.size) 58 #[.int .i64 m1.kind, .string (strOfNums m1.s), .int .u64 m1.n, .slice sa m1.b.length sc, .int .i64 m1.line, .int .i64 m1.col] := Blk.kept ((blkoth5 Bm (show w1.heap.size ≠ w.heap.size by omega)).is (by first | rfl | simp)) hb3
      clear xs ys xr3 yr3 xr4 yr4 xm ym
      have hs3 := hb3.size
      try simp at hs3
      have xs := Bs.cellF
      have ys := Bs.frz
      replace zs : w.heap.size < v3.heap.size := by omega
      have xr3 := Br3.cellF
      have yr3 := Br3.frz
      replace zr3 : w.heap.size + 1 < v3.heap.size := by omega
      have xr4 := Br4.cellF
      have yr4 := Br4.frz
      replace zr4 : w.heap.size + 1 + 1 < v3.heap.size := by omega
      have xm := Bm.cellF
      have ym := Bm.frz
      replace zm : w1.heap.size < v3.heap.size := by omega
      replace hb3 : Hid (Below w.heap.size w v3) := hid (bl_then (by have := hb2.out; exact blBy) hb3)
      have HLT : Hid (muM s4 < muM s2) := hid (by rw [he4.out, he3.out]; exact typ_dec (t, s2) hi)
      have HSL := hid hk4.out.sl
      have hsz1 : (strOfNums t).size = t.length := strOfNums_size t
      have hsz2 : (strOfNums m4.s).size = m4.s.length := strOfNums_size m4.s
      have hl1 : ¬ 9223372036854775807 < (strOfNums t).size + 1 := by have := hln.out; have := hsz1; omega
      have hcat : strOfNums t ++ ⟨#[46]⟩ ++ strOfNums m4.s = strOfNums (t ++ 46 :: m4.s) := by rw [show (⟨#[46]⟩ : ByteArray) = strOfNums [46] from rfl, str_add, str_add]; simp
      have hl2 : ¬ 9223372036854775807 < (strOfNums t ++ ⟨#[46]⟩).size + (strOfNums m4.s).size := by rw [ByteArray.size_append, hsz1, hsz2]; have := hln.out; have := HSL.out; show ¬ _ < t.length + 1 + _; omega
      go_wp2
      exact ⟨⟨t ++ 46 :: m4.s, s4, o4, c4, rfl, hid (by rw [hty.out, HTY.out, ← he3.out, ← hm4.out, ← he4.out]), hst4, hid (fun c hc => by rcases List.mem_append.1 hc with h1 | h1; exact hbd.out c h1; rcases List.mem_cons.1 h1 with rfl | h2; decide; exact hk4.out.bd c h2), hid (by have h1 := hln.out; have h2 := HLT.out; have h3 := HSL.out; simp; omega), hid (by have := hb3.out; exact blBy), hid (by simp; omega), hid ((((blkall5 Bs).kept (below_alloc _)).kept (below_alloc _)).is (by first | rfl | simp)), hid ((((blkoth5 Br3 (show w.heap.size + 1 ≠ w.heap.size by omega)).kept (below_alloc _)).kept (below_alloc _)).is (by first | rfl | simp)), hid ((((blkoth5 Br4 (show w.heap.size + 1 + 1 ≠ w.heap.size by omega)).kept (below_alloc _)).kept (below_alloc _)).is (by first | rfl | simp)), hid ((((blkoth5 Bm (show w1.heap.size ≠ w.heap.size by omega)).kept (below_alloc _)).kept (below_alloc _)).is (by first | rfl | simp))⟩, by rw [hm0, muW_is ((((blkall5 Bs).kept (below_alloc _)).kept (below_alloc _)).is (by first | rfl | simp))]; exact HLT.out⟩
    | false =>
      have HTS := hid (typLr_stop (t := t) hi)
      go_wp2_with fail
      refine (isR w0 b o2 c2 s2 _ ⟨#[46]⟩ [46] rfl (by decide) hst2.out (bl_then HB.out (by have := hb0.out; exact blBy))).mono ?_
      rintro e v1 ⟨rfl, hb1⟩
      replace Bs : Blk v1 (w.heap.size) 54 #[.slice (some ⟨b, o2, none⟩) s2.l.length c2, .int .i64 s2.cd, .int .i64 0, .int .i64 s2.ln, .int .i64 s2.cl] := Blk.kept (Bs.is (by first | rfl | simp)) hb1
      replace Br3 : Blk v1 (w.heap.size + 1) 64 #[.int .i64 0, .int .i64 0] := Blk.kept (Br3.is (by first | rfl | simp)) hb1
      replace Br4 : Blk v1 (w.heap.size + 1 + 1) 54 #[.slice none 0 0, .int .i64 0, .int .i64 0, .int .i64 0, .int .i64 0] := Blk.kept (Br4.is (by first | rfl | simp)) hb1
      replace Bm : Blk v1 (w1.heap.size) 58 #[.int .i64 m1.kind, .string (strOfNums m1.s), .int .u64 m1.n, .slice sa m1.b.length sc, .int .i64 m1.line, .int .i64 m1.col] := Blk.kept (Bm.is (by first | rfl | simp)) hb1
      clear xs ys xr3 yr3 xr4 yr4 xm ym
      have hs1 := hb1.size
      try simp at hs1
      have xs := Bs.cellF
      have ys := Bs.frz
      replace zs : w.heap.size < v1.heap.size := by omega
      have xr3 := Br3.cellF
      have yr3 := Br3.frz
      replace zr3 : w.heap.size + 1 < v1.heap.size := by omega
      have xr4 := Br4.cellF
      have yr4 := Br4.frz
      replace zr4 : w.heap.size + 1 + 1 < v1.heap.size := by omega
      have xm := Bm.cellF
      have ym := Bm.frz
      replace zm : w1.heap.size < v1.heap.size := by omega
      replace hb1 : Hid (Below w.heap.size w v1) := hid (bl_then (by have := hb0.out; exact blBy) hb1)
      rw [hi]
      go_wp2_with fail
      go_region_held3 (fun W => (W.cell? ⟨w1.heap.size, 0, none⟩ = some (.int .i64 m1.kind) ∧ W.cell? ⟨w1.heap.size, 1, none⟩ = some (.string (strOfNums m1.s)) ∧ W.cell? ⟨w1.heap.size, 2, none⟩ = some (.int .u64 m1.n) ∧ W.cell? ⟨w1.heap.size, 3, none⟩ = some (.slice sa m1.b.length sc) ∧ W.cell? ⟨w1.heap.size, 4, none⟩ = some (.int .i64 m1.line) ∧ W.cell? ⟨w1.heap.size, 5, none⟩ = some (.int .i64 m1.col)) ∧ (W.cell? ⟨w.heap.size, 0, none⟩ = some (.slice (some ⟨b, o2, none⟩) s2.l.length c2) ∧ W.cell? ⟨w.heap.size, 1, none⟩ = some (.int .i64 s2.cd) ∧ W.cell? ⟨w.heap.size, 2, none⟩ = some (.int .i64 0) ∧ W.cell? ⟨w.heap.size, 3, none⟩ = some (.int .i64 s2.ln) ∧ W.cell? ⟨w.heap.size, 4, none⟩ = some (.int .i64 s2.cl))) ((refine ⟨blkc6 (t := 58) ?_, blkc5 (t := 54) ?_⟩ <;> (with_reducible repeat (first | exact Vm.out | exact Vs.out | exact Bm | exact Bs | refine Blk.oth ?_ | refine Blk.kept ?_ (below_drew1 _))); done)) (first | (go_at_call 20; refine (atR _ m1 sa sc).mono ?_; rintro e u1 ⟨rfl, hbu⟩; have Vm : Hid (Blk u1 (w1.heap.size) 58 #[.int .i64 m1.kind, .string (strOfNums m1.s), .int .u64 m1.n, .slice sa m1.b.length sc, .int .i64 m1.line, .int .i64 m1.col]) := hid (Blk.kept (by (with_reducible repeat (first | exact Bm | refine Blk.oth ?_ | refine Blk.kept ?_ (below_drew1 _))); done) hbu); have Vs : Hid (Blk u1 (w.heap.size) 54 #[.slice (some ⟨b, o2, none⟩) s2.l.length c2, .int .i64 s2.cd, .int .i64 0, .int .i64 s2.ln, .int .i64 s2.cl]) := hid (Blk.kept (by (with_reducible repeat (first | exact Bs | refine Blk.oth ?_ | refine Blk.kept ?_ (below_drew1 _))); done) hbu); have Vr3 : Hid (Blk u1 (w.heap.size + 1) 64 #[.int .i64 0, .int .i64 0]) := hid (Blk.kept (by (with_reducible repeat (first | exact Br3 | refine Blk.oth ?_ | refine Blk.kept ?_ (below_drew1 _))); done) hbu); have vx3 := Vr3.out.cellF; have vy3 := Vr3.out.frz; (try have Vr4 : Hid (Blk u1 (w.heap.size + 1 + 1) 54 #[.slice none 0 0, .int .i64 0, .int .i64 0, .int .i64 0, .int .i64 0]) := hid (Blk.kept (by (with_reducible repeat (first | exact Br4 | refine Blk.oth ?_ | refine Blk.kept ?_ (below_drew1 _))); done) hbu)); (try have vx4 := Vr4.out.cellF); (try have vy4 := Vr4.out.frz); (try have Wr4 : Hid (Blk u1 (w.heap.size + 1 + 1) 54 #[.slice (some ⟨b, o2, none⟩) s2.l.length c2, .int .i64 s2.cd, .int .i64 0, .int .i64 s2.ln, .int .i64 s2.cl]) := hid (Blk.kept (by with_reducible exact (blkall5 Br4).kept (below_drew1 _)) hbu)); (try have wx4 := Wr4.out.cellF); have hsu := hbu.size; (try simp at hsu); have hbb : Hid (Below w.heap.size w u1) := hid (bl_then (by have := hb1.out; exact blBy) hbu); clear hbu))
      all_goals go_wp2
      all_goals exact bodyPost_ret (v := .tuple #[.string (strOfNums t), .agg #[.int .i64 m1.line, .int .i64 m1.col], .agg #[.slice (some ⟨b, o2, none⟩) s2.l.length c2, .int .i64 s2.cd, .int .i64 0, .int .i64 s2.ln, .int .i64 s2.cl]]) (by first | simp [results, Tryz.results104, go_sem, vx3, vx4, zr3, zr4] | simp [results, Tryz.results104, go_sem, vx3, wx4, zr3, zr4]) rfl ⟨⟨t, atM m1, s2, o2, c2, hid (by unfold typM; rw [← hm1.out, ← he1.out, hty.out, HTS.out]), hid (by unfold typM; rw [← hm1.out]), hid (by unfold typM; rw [← hm1.out, ← he1.out, hty.out, HTS.out]), rfl, hbd, hst2⟩, by have := hbb.out; exact blBy⟩
end
set_option maxHeartbeats 8000000
section
variable (w0 : World) (b off cap : Nat) (s : PS) (w : World)
theorem fieldR_ab (label : Int) (mark : Int × Int) (hq : label = 4 ∨ isM (fldA s label mark).2 [91] = false) (h : StR w0 b off cap s) (hb : Below w0.heap.size w0 w) : Calls Tryz.prog 81 #[.agg #[.slice (some ⟨b, off, none⟩) s.l.length cap, .int .i64 s.cd, .int .i64 0, .int .i64 s.ln, .int .i64 s.cl], .int .i64 label, .agg #[.int .i64 mark.1, .int .i64 mark.2]] w fun e w' => (∃ f s' o c, Hid (f = (fldM s label mark).1) ∧ Hid (s' = (fldM s label mark).2) ∧ e = .returned (.tuple #[.agg #[.string (strOfNums f.name), .string (strOfNums f.ty), .string (strOfNums f.key), .int .u64 f.num, .int .i64 f.label, .int .i64 f.packed, .int .i64 f.oneof, .int .i64 f.at1.1, .int .i64 f.at1.2, .int .i64 f.nat1.1, .int .i64 f.nat1.2, .int .i64 f.tat.1, .int .i64 f.tat.2, .int .i64 f.mat.1, .int .i64 f.mat.2], .agg #[.slice (some ⟨b, o, none⟩) s'.l.length c, .int .i64 s'.cd, .int .i64 0, .int .i64 s'.ln, .int .i64 s'.cl]]) ∧ Hid (StR w0 b o c s')) ∧ Below w.heap.size w w' := by
  replace hq := hid hq
  have HB := hid hb
  have HW := hid h
  clear h hb
  obtain ⟨mkl, mkc⟩ := mark
  have hb0 : Hid (Below w.heap.size w w) := hid (Below.refl _ _)
  go_enter Tryz.func81, Tryz.ntmps81
  go_wp2_with fail
  refine (typR w0 b off cap s _ HW.out (bl_then HB.out (by have := hb0.out; exact blBy))).mono ?_
  rintro e w1 ⟨⟨t, pl, s1, o1, c1, ht, hpl, he1, rfl, hbd, hst1⟩, hb1⟩
  have Bs : Blk w1 (w.heap.size) 54 #[.slice (some ⟨b, off, none⟩) s.l.length cap, .int .i64 s.cd, .int .i64 0, .int .i64 s.ln, .int .i64 s.cl] := Blk.kept (((((Blk.newAt (by simp)).kept (below_alloc _)).kept (below_alloc _)).kept (below_alloc _)).is (by first | rfl | simp)) hb1
  have Bk : Blk w1 (w.heap.size + 1) 64 #[.int .i64 mkl, .int .i64 mkc] := Blk.kept ((((Blk.newAt (by simp)).kept (below_alloc _)).kept (below_alloc _)).is (by first | rfl | simp)) hb1
  have Br6 : Blk w1 (w.heap.size + 1 + 1) 78 #[.string ⟨#[]⟩, .string ⟨#[]⟩, .string ⟨#[]⟩, .int .u64 0, .int .i64 0, .int .i64 0, .int .i64 0, .int .i64 0, .int .i64 0, .int .i64 0, .int .i64 0, .int .i64 0, .int .i64 0, .int .i64 0, .int .i64 0] := Blk.kept (((Blk.newAt (by simp)).kept (below_alloc _)).is (by first | rfl | simp)) hb1
  have Br7 : Blk w1 (w.heap.size + 1 + 1 + 1) 54 #[.slice none 0 0, .int .i64 0, .int .i64 0, .int .i64 0, .int .i64 0] := Blk.kept ((Blk.newAt (by simp)).is (by first | rfl | simp)) hb1
  have hs1 := hb1.size
  try simp at hs1
  have xs := Bs.cellF
  have ys := Bs.frz
  have zs : w.heap.size < w1.heap.size := by omega
  have xk := Bk.cellF
  have yk := Bk.frz
  have zk : w.heap.size + 1 < w1.heap.size := by omega
  have xr6 := Br6.cellF
  have yr6 := Br6.frz
  have zr6 : w.heap.size + 1 + 1 < w1.heap.size := by omega
  have xr7 := Br7.cellF
  have yr7 := Br7.frz
  have zr7 : w.heap.size + 1 + 1 + 1 < w1.heap.size := by omega
  replace hb1 : Hid (Below w.heap.size w w1) := hid (bl_then (by have := hb0.out; exact blBy) hb1)
  go_wp2_with fail
  refine (namedR w0 b o1 c1 s1 _ hst1.out (bl_then HB.out (by have := hb1.out; exact blBy))).mono ?_
  rintro e w2 ⟨⟨m, n, s2, sa, sc, ta, tc, o2, c2, hm, hn, he2, rfl, hkm, hkn, hst2⟩, hb2⟩
  replace Bs : Blk w2 (w.heap.size) 54 #[.slice (some ⟨b, o1, none⟩) s1.l.length c1, .int .i64 s1.cd, .int .i64 0, .int .i64 s1.ln, .int .i64 s1.cl] := Blk.kept (((blkall5 Bs).kept (below_alloc _)).is (by first | rfl | simp)) hb2
  replace Bk : Blk w2 (w.heap.size + 1) 64 #[.int .i64 mkl, .int .i64 mkc] := Blk.kept (((blkoth5 Bk (show w.heap.size + 1 ≠ w.heap.size by omega)).kept (below_alloc _)).is (by first | rfl | simp)) hb2
  replace Br6 : Blk w2 (w.heap.size + 1 + 1) 78 #[.string ⟨#[]⟩, .string ⟨#[]⟩, .string ⟨#[]⟩, .int .u64 0, .int .i64 0, .int .i64 0, .int .i64 0, .int .i64 0, .int .i64 0, .int .i64 0, .int .i64 0, .int .i64 0, .int .i64 0, .int .i64 0, .int .i64 0] := Blk.kept (((blkoth5 Br6 (show w.heap.size + 1 + 1 ≠ w.heap.size by omega)).kept (below_alloc _)).is (by first | rfl | simp)) hb2
  replace Br7 : Blk w2 (w.heap.size + 1 + 1 + 1) 54 #[.slice none 0 0, .int .i64 0, .int .i64 0, .int .i64 0, .int .i64 0] := Blk.kept (((blkoth5 Br7 (show w.heap.size + 1 + 1 + 1 ≠ w.heap.size by omega)).kept (below_alloc _)).is (by first | rfl | simp)) hb2
  have Bp : Blk w2 (w1.heap.size) 64 #[.int .i64 pl.1, .int .i64 pl.2] := Blk.kept ((Blk.newAt (by simp)).is (by first | rfl | simp)) hb2
  clear xs ys xk yk xr6 yr6 xr7 yr7
  have hs2 := hb2.size
  try simp at hs2
  have xs := Bs.cellF
  have ys := Bs.frz
  replace zs : w.heap.size < w2.heap.size := by omega
  have xk := Bk.cellF
  have yk := Bk.frz
  replace zk : w.heap.size + 1 < w2.heap.size := by omega
  have xr6 := Br6.cellF
  have yr6 := Br6.frz
  replace zr6 : w.heap.size + 1 + 1 < w2.heap.size := by omega
  have xr7 := Br7.cellF
  have yr7 := Br7.frz
  replace zr7 : w.heap.size + 1 + 1 + 1 < w2.heap.size := by omega
  have xp := Bp.cellF
  have yp := Bp.frz
  have zp : w1.heap.size < w2.heap.size := by omega
  replace hb2 : Hid (Below w.heap.size w w2) := hid (bl_then (by have := hb1.out; exact blBy) hb2)
  have HFA : Hid (fldA s label (mkl, mkc) = (fld [] t pl m n label (mkl, mkc), s2)) := hid (by unfold fldA; rw [← ht.out, ← hpl.out, ← he1.out, ← hm.out, ← hn.out, ← he2.out])
  go_upto_region 3 with fail
  go_cut [12] from 25 to 37 (fun s12 wc => ∃ Q, s12 = .pointer (some ⟨Q, 0, none⟩) ∧ Hid (Below w.heap.size w wc) ∧ Hid (w2.heap.size ≤ Q ∧ Q < wc.heap.size) ∧ Hid (Blk wc Q 78 #[.string (strOfNums m.s), .string (strOfNums t), .string ⟨#[]⟩, .int .u64 n.n, .int .i64 label, .int .i64 0, .int .i64 0, .int .i64 m.line, .int .i64 m.col, .int .i64 n.line, .int .i64 n.col, .int .i64 pl.1, .int .i64 pl.2, .int .i64 mkl, .int .i64 mkc]) ∧ Hid (Blk wc (w.heap.size) 54 #[.slice (some ⟨b, o2, none⟩) s2.l.length c2, .int .i64 s2.cd, .int .i64 0, .int .i64 s2.ln, .int .i64 s2.cl]) ∧ Hid (Blk wc (w.heap.size + 1 + 1) 78 #[.string ⟨#[]⟩, .string ⟨#[]⟩, .string ⟨#[]⟩, .int .u64 0, .int .i64 0, .int .i64 0, .int .i64 0, .int .i64 0, .int .i64 0, .int .i64 0, .int .i64 0, .int .i64 0, .int .i64 0, .int .i64 0, .int .i64 0]) ∧ Hid (Blk wc (w.heap.size + 1 + 1 + 1) 54 #[.slice none 0 0, .int .i64 0, .int .i64 0, .int .i64 0, .int .i64 0]))
  case first =>
    have Es : Blk (((((((w2.setCell ⟨w.heap.size, 0, none⟩ (.slice (some ⟨b, o2, none⟩) s2.l.length c2)).setCell ⟨w.heap.size, 1, none⟩ (.int .i64 s2.cd)).setCell ⟨w.heap.size, 2, none⟩ (.int .i64 0)).setCell ⟨w.heap.size, 3, none⟩ (.int .i64 s2.ln)).setCell ⟨w.heap.size, 4, none⟩ (.int .i64 s2.cl)).alloc (.cells #[.int .i64 m.kind, .string (strOfNums m.s), .int .u64 m.n, .slice sa m.b.length sc, .int .i64 m.line, .int .i64 m.col] 58)).alloc (.cells #[.int .i64 n.kind, .string (strOfNums n.s), .int .u64 n.n, .slice ta n.b.length tc, .int .i64 n.line, .int .i64 n.col] 58)) (w.heap.size) 54 #[.slice (some ⟨b, o2, none⟩) s2.l.length c2, .int .i64 s2.cd, .int .i64 0, .int .i64 s2.ln, .int .i64 s2.cl] := ((((blkall5 Bs).kept (below_alloc _)).kept (below_alloc _)).is (by first | rfl | simp))
    have Ek : Blk (((((((w2.setCell ⟨w.heap.size, 0, none⟩ (.slice (some ⟨b, o2, none⟩) s2.l.length c2)).setCell ⟨w.heap.size, 1, none⟩ (.int .i64 s2.cd)).setCell ⟨w.heap.size, 2, none⟩ (.int .i64 0)).setCell ⟨w.heap.size, 3, none⟩ (.int .i64 s2.ln)).setCell ⟨w.heap.size, 4, none⟩ (.int .i64 s2.cl)).alloc (.cells #[.int .i64 m.kind, .string (strOfNums m.s), .int .u64 m.n, .slice sa m.b.length sc, .int .i64 m.line, .int .i64 m.col] 58)).alloc (.cells #[.int .i64 n.kind, .string (strOfNums n.s), .int .u64 n.n, .slice ta n.b.length tc, .int .i64 n.line, .int .i64 n.col] 58)) (w.heap.size + 1) 64 #[.int .i64 mkl, .int .i64 mkc] := ((((blkoth5 Bk (show w.heap.size + 1 ≠ w.heap.size by omega)).kept (below_alloc _)).kept (below_alloc _)).is (by first | rfl | simp))
    have Er6 : Blk (((((((w2.setCell ⟨w.heap.size, 0, none⟩ (.slice (some ⟨b, o2, none⟩) s2.l.length c2)).setCell ⟨w.heap.size, 1, none⟩ (.int .i64 s2.cd)).setCell ⟨w.heap.size, 2, none⟩ (.int .i64 0)).setCell ⟨w.heap.size, 3, none⟩ (.int .i64 s2.ln)).setCell ⟨w.heap.size, 4, none⟩ (.int .i64 s2.cl)).alloc (.cells #[.int .i64 m.kind, .string (strOfNums m.s), .int .u64 m.n, .slice sa m.b.length sc, .int .i64 m.line, .int .i64 m.col] 58)).alloc (.cells #[.int .i64 n.kind, .string (strOfNums n.s), .int .u64 n.n, .slice ta n.b.length tc, .int .i64 n.line, .int .i64 n.col] 58)) (w.heap.size + 1 + 1) 78 #[.string ⟨#[]⟩, .string ⟨#[]⟩, .string ⟨#[]⟩, .int .u64 0, .int .i64 0, .int .i64 0, .int .i64 0, .int .i64 0, .int .i64 0, .int .i64 0, .int .i64 0, .int .i64 0, .int .i64 0, .int .i64 0, .int .i64 0] := ((((blkoth5 Br6 (show w.heap.size + 1 + 1 ≠ w.heap.size by omega)).kept (below_alloc _)).kept (below_alloc _)).is (by first | rfl | simp))
    have Er7 : Blk (((((((w2.setCell ⟨w.heap.size, 0, none⟩ (.slice (some ⟨b, o2, none⟩) s2.l.length c2)).setCell ⟨w.heap.size, 1, none⟩ (.int .i64 s2.cd)).setCell ⟨w.heap.size, 2, none⟩ (.int .i64 0)).setCell ⟨w.heap.size, 3, none⟩ (.int .i64 s2.ln)).setCell ⟨w.heap.size, 4, none⟩ (.int .i64 s2.cl)).alloc (.cells #[.int .i64 m.kind, .string (strOfNums m.s), .int .u64 m.n, .slice sa m.b.length sc, .int .i64 m.line, .int .i64 m.col] 58)).alloc (.cells #[.int .i64 n.kind, .string (strOfNums n.s), .int .u64 n.n, .slice ta n.b.length tc, .int .i64 n.line, .int .i64 n.col] 58)) (w.heap.size + 1 + 1 + 1) 54 #[.slice none 0 0, .int .i64 0, .int .i64 0, .int .i64 0, .int .i64 0] := ((((blkoth5 Br7 (show w.heap.size + 1 + 1 + 1 ≠ w.heap.size by omega)).kept (below_alloc _)).kept (below_alloc _)).is (by first | rfl | simp))
    have Ep : Blk (((((((w2.setCell ⟨w.heap.size, 0, none⟩ (.slice (some ⟨b, o2, none⟩) s2.l.length c2)).setCell ⟨w.heap.size, 1, none⟩ (.int .i64 s2.cd)).setCell ⟨w.heap.size, 2, none⟩ (.int .i64 0)).setCell ⟨w.heap.size, 3, none⟩ (.int .i64 s2.ln)).setCell ⟨w.heap.size, 4, none⟩ (.int .i64 s2.cl)).alloc (.cells #[.int .i64 m.kind, .string (strOfNums m.s), .int .u64 m.n, .slice sa m.b.length sc, .int .i64 m.line, .int .i64 m.col] 58)).alloc (.cells #[.int .i64 n.kind, .string (strOfNums n.s), .int .u64 n.n, .slice ta n.b.length tc, .int .i64 n.line, .int .i64 n.col] 58)) (w1.heap.size) 64 #[.int .i64 pl.1, .int .i64 pl.2] := ((((blkoth5 Bp (show w1.heap.size ≠ w.heap.size by omega)).kept (below_alloc _)).kept (below_alloc _)).is (by first | rfl | simp))
    have Em : Blk (((((((w2.setCell ⟨w.heap.size, 0, none⟩ (.slice (some ⟨b, o2, none⟩) s2.l.length c2)).setCell ⟨w.heap.size, 1, none⟩ (.int .i64 s2.cd)).setCell ⟨w.heap.size, 2, none⟩ (.int .i64 0)).setCell ⟨w.heap.size, 3, none⟩ (.int .i64 s2.ln)).setCell ⟨w.heap.size, 4, none⟩ (.int .i64 s2.cl)).alloc (.cells #[.int .i64 m.kind, .string (strOfNums m.s), .int .u64 m.n, .slice sa m.b.length sc, .int .i64 m.line, .int .i64 m.col] 58)).alloc (.cells #[.int .i64 n.kind, .string (strOfNums n.s), .int .u64 n.n, .slice ta n.b.length tc, .int .i64 n.line, .int .i64 n.col] 58)) (w2.heap.size) 58 #[.int .i64 m.kind, .string (strOfNums m.s), .int .u64 m.n, .slice sa m.b.length sc, .int .i64 m.line, .int .i64 m.col] := (((Blk.newAt (by simp)).kept (below_alloc _)).is (by first | rfl | simp))
    have En : Blk (((((((w2.setCell ⟨w.heap.size, 0, none⟩ (.slice (some ⟨b, o2, none⟩) s2.l.length c2)).setCell ⟨w.heap.size, 1, none⟩ (.int .i64 s2.cd)).setCell ⟨w.heap.size, 2, none⟩ (.int .i64 0)).setCell ⟨w.heap.size, 3, none⟩ (.int .i64 s2.ln)).setCell ⟨w.heap.size, 4, none⟩ (.int .i64 s2.cl)).alloc (.cells #[.int .i64 m.kind, .string (strOfNums m.s), .int .u64 m.n, .slice sa m.b.length sc, .int .i64 m.line, .int .i64 m.col] 58)).alloc (.cells #[.int .i64 n.kind, .string (strOfNums n.s), .int .u64 n.n, .slice ta n.b.length tc, .int .i64 n.line, .int .i64 n.col] 58)) (w2.heap.size + 1) 58 #[.int .i64 n.kind, .string (strOfNums n.s), .int .u64 n.n, .slice ta n.b.length tc, .int .i64 n.line, .int .i64 n.col] := ((Blk.newAt (by simp)).is (by first | rfl | simp))
    have hbm : Hid (Below w.heap.size w (((((((w2.setCell ⟨w.heap.size, 0, none⟩ (.slice (some ⟨b, o2, none⟩) s2.l.length c2)).setCell ⟨w.heap.size, 1, none⟩ (.int .i64 s2.cd)).setCell ⟨w.heap.size, 2, none⟩ (.int .i64 0)).setCell ⟨w.heap.size, 3, none⟩ (.int .i64 s2.ln)).setCell ⟨w.heap.size, 4, none⟩ (.int .i64 s2.cl)).alloc (.cells #[.int .i64 m.kind, .string (strOfNums m.s), .int .u64 m.n, .slice sa m.b.length sc, .int .i64 m.line, .int .i64 m.col] 58)).alloc (.cells #[.int .i64 n.kind, .string (strOfNums n.s), .int .u64 n.n, .slice ta n.b.length tc, .int .i64 n.line, .int .i64 n.col] 58))) := hid (by have := hb2.out; exact blBy)
    have zwm : w2.heap.size + 1 < (((((((w2.setCell ⟨w.heap.size, 0, none⟩ (.slice (some ⟨b, o2, none⟩) s2.l.length c2)).setCell ⟨w.heap.size, 1, none⟩ (.int .i64 s2.cd)).setCell ⟨w.heap.size, 2, none⟩ (.int .i64 0)).setCell ⟨w.heap.size, 3, none⟩ (.int .i64 s2.ln)).setCell ⟨w.heap.size, 4, none⟩ (.int .i64 s2.cl)).alloc (.cells #[.int .i64 m.kind, .string (strOfNums m.s), .int .u64 m.n, .slice sa m.b.length sc, .int .i64 m.line, .int .i64 m.col] 58)).alloc (.cells #[.int .i64 n.kind, .string (strOfNums n.s), .int .u64 n.n, .slice ta n.b.length tc, .int .i64 n.line, .int .i64 n.col] 58)).heap.size := by simp
    clear Bs xs ys zs Bk xk yk zk Br6 xr6 yr6 zr6 Br7 xr7 yr7 zr7 Bp xp yp zp
    generalize (((((((w2.setCell ⟨w.heap.size, 0, none⟩ (.slice (some ⟨b, o2, none⟩) s2.l.length c2)).setCell ⟨w.heap.size, 1, none⟩ (.int .i64 s2.cd)).setCell ⟨w.heap.size, 2, none⟩ (.int .i64 0)).setCell ⟨w.heap.size, 3, none⟩ (.int .i64 s2.ln)).setCell ⟨w.heap.size, 4, none⟩ (.int .i64 s2.cl)).alloc (.cells #[.int .i64 m.kind, .string (strOfNums m.s), .int .u64 m.n, .slice sa m.b.length sc, .int .i64 m.line, .int .i64 m.col] 58)).alloc (.cells #[.int .i64 n.kind, .string (strOfNums n.s), .int .u64 n.n, .slice ta n.b.length tc, .int .i64 n.line, .int .i64 n.col] 58)) = wm at *
    have Bs := Es
    clear Es
    have Bk := Ek
    clear Ek
    have Br6 := Er6
    clear Er6
    have Br7 := Er7
    clear Er7
    have Bp := Ep
    clear Ep
    have Bm := Em
    clear Em
    have Bn := En
    clear En
    have xm := Bm.cellF
    have xn := Bn.cellF
    have xp := Bp.cellF
    have xk := Bk.cellF
    go_region_held3 (fun W => (W.cell? ⟨w2.heap.size, 0, none⟩ = some (.int .i64 m.kind) ∧ W.cell? ⟨w2.heap.size, 1, none⟩ = some (.string (strOfNums m.s)) ∧ W.cell? ⟨w2.heap.size, 2, none⟩ = some (.int .u64 m.n) ∧ W.cell? ⟨w2.heap.size, 3, none⟩ = some (.slice sa m.b.length sc) ∧ W.cell? ⟨w2.heap.size, 4, none⟩ = some (.int .i64 m.line) ∧ W.cell? ⟨w2.heap.size, 5, none⟩ = some (.int .i64 m.col)) ∧ (W.cell? ⟨w2.heap.size + 1, 0, none⟩ = some (.int .i64 n.kind) ∧ W.cell? ⟨w2.heap.size + 1, 1, none⟩ = some (.string (strOfNums n.s)) ∧ W.cell? ⟨w2.heap.size + 1, 2, none⟩ = some (.int .u64 n.n) ∧ W.cell? ⟨w2.heap.size + 1, 3, none⟩ = some (.slice ta n.b.length tc) ∧ W.cell? ⟨w2.heap.size + 1, 4, none⟩ = some (.int .i64 n.line) ∧ W.cell? ⟨w2.heap.size + 1, 5, none⟩ = some (.int .i64 n.col)) ∧ (W.cell? ⟨w1.heap.size, 0, none⟩ = some (.int .i64 pl.1) ∧ W.cell? ⟨w1.heap.size, 1, none⟩ = some (.int .i64 pl.2)) ∧ (W.cell? ⟨w.heap.size + 1, 0, none⟩ = some (.int .i64 mkl) ∧ W.cell? ⟨w.heap.size + 1, 1, none⟩ = some (.int .i64 mkc))) ((refine ⟨blkc6 (t := 58) ?_, blkc6 (t := 58) ?_, blkc2 (t := 64) ?_, blkc2 (t := 64) ?_⟩ <;> (with_reducible repeat (first | exact Vmu2.out | exact Vnu2.out | exact Vpu2.out | exact Vku2.out | exact Vmu1.out | exact Vnu1.out | exact Vpu1.out | exact Vku1.out | exact Bm | exact Bn | exact Bp | exact Bk | refine Blk.oth ?_ | refine Blk.kept ?_ (below_drew1 _) | refine Blk.kept ?_ (below_alloc _))); done)) (first | (go_at_call_of 20 m; refine (atR _ m sa sc).mono ?_; rintro e u1 ⟨rfl, hbu⟩; have Vsu1 : Hid (Blk u1 (w.heap.size) 54 #[.slice (some ⟨b, o2, none⟩) s2.l.length c2, .int .i64 s2.cd, .int .i64 0, .int .i64 s2.ln, .int .i64 s2.cl]) := hid (Blk.kept (by (with_reducible repeat (first | exact Bs | refine Blk.oth ?_ | refine Blk.kept ?_ (below_drew1 _) | refine Blk.kept ?_ (below_alloc _))); done) hbu); have Vku1 : Hid (Blk u1 (w.heap.size + 1) 64 #[.int .i64 mkl, .int .i64 mkc]) := hid (Blk.kept (by (with_reducible repeat (first | exact Bk | refine Blk.oth ?_ | refine Blk.kept ?_ (below_drew1 _) | refine Blk.kept ?_ (below_alloc _))); done) hbu); have Vr6u1 : Hid (Blk u1 (w.heap.size + 1 + 1) 78 #[.string ⟨#[]⟩, .string ⟨#[]⟩, .string ⟨#[]⟩, .int .u64 0, .int .i64 0, .int .i64 0, .int .i64 0, .int .i64 0, .int .i64 0, .int .i64 0, .int .i64 0, .int .i64 0, .int .i64 0, .int .i64 0, .int .i64 0]) := hid (Blk.kept (by (with_reducible repeat (first | exact Br6 | refine Blk.oth ?_ | refine Blk.kept ?_ (below_drew1 _) | refine Blk.kept ?_ (below_alloc _))); done) hbu); have Vr7u1 : Hid (Blk u1 (w.heap.size + 1 + 1 + 1) 54 #[.slice none 0 0, .int .i64 0, .int .i64 0, .int .i64 0, .int .i64 0]) := hid (Blk.kept (by (with_reducible repeat (first | exact Br7 | refine Blk.oth ?_ | refine Blk.kept ?_ (below_drew1 _) | refine Blk.kept ?_ (below_alloc _))); done) hbu); have Vpu1 : Hid (Blk u1 (w1.heap.size) 64 #[.int .i64 pl.1, .int .i64 pl.2]) := hid (Blk.kept (by (with_reducible repeat (first | exact Bp | refine Blk.oth ?_ | refine Blk.kept ?_ (below_drew1 _) | refine Blk.kept ?_ (below_alloc _))); done) hbu); have Vmu1 : Hid (Blk u1 (w2.heap.size) 58 #[.int .i64 m.kind, .string (strOfNums m.s), .int .u64 m.n, .slice sa m.b.length sc, .int .i64 m.line, .int .i64 m.col]) := hid (Blk.kept (by (with_reducible repeat (first | exact Bm | refine Blk.oth ?_ | refine Blk.kept ?_ (below_drew1 _) | refine Blk.kept ?_ (below_alloc _))); done) hbu); have Vnu1 : Hid (Blk u1 (w2.heap.size + 1) 58 #[.int .i64 n.kind, .string (strOfNums n.s), .int .u64 n.n, .slice ta n.b.length tc, .int .i64 n.line, .int .i64 n.col]) := hid (Blk.kept (by (with_reducible repeat (first | exact Bn | refine Blk.oth ?_ | refine Blk.kept ?_ (below_drew1 _) | refine Blk.kept ?_ (below_alloc _))); done) hbu); (try have Y1 : Hid (Blk u1 wm.heap.size 78 #[.string ⟨#[]⟩, .string ⟨#[]⟩, .string ⟨#[]⟩, .int .u64 0, .int .i64 0, .int .i64 0, .int .i64 0, .int .i64 0, .int .i64 0, .int .i64 0, .int .i64 0, .int .i64 0, .int .i64 0, .int .i64 0, .int .i64 0]) := hid (Blk.kept (by first | with_reducible exact (Blk.newAt (w := wm) rfl).kept (below_drew1 _) | with_reducible exact Blk.newAt (w := wm.drew) rfl) hbu)); have hsu1 := hbu.size; (try simp at hsu1); have hbb1 : Hid (Below w.heap.size w u1) := hid (bl_then (by have := hbm.out; exact blBy) hbu); clear hbu) | (go_at_call_of 20 n; refine (atR _ n ta tc).mono ?_; rintro e u2 ⟨rfl, hbu⟩; have Vsu2 : Hid (Blk u2 (w.heap.size) 54 #[.slice (some ⟨b, o2, none⟩) s2.l.length c2, .int .i64 s2.cd, .int .i64 0, .int .i64 s2.ln, .int .i64 s2.cl]) := hid (Blk.kept (by (with_reducible repeat (first | exact Vsu1.out | refine Blk.oth ?_ | refine Blk.kept ?_ (below_drew1 _) | refine Blk.kept ?_ (below_alloc _))); done) hbu); have Vku2 : Hid (Blk u2 (w.heap.size + 1) 64 #[.int .i64 mkl, .int .i64 mkc]) := hid (Blk.kept (by (with_reducible repeat (first | exact Vku1.out | refine Blk.oth ?_ | refine Blk.kept ?_ (below_drew1 _) | refine Blk.kept ?_ (below_alloc _))); done) hbu); have Vr6u2 : Hid (Blk u2 (w.heap.size + 1 + 1) 78 #[.string ⟨#[]⟩, .string ⟨#[]⟩, .string ⟨#[]⟩, .int .u64 0, .int .i64 0, .int .i64 0, .int .i64 0, .int .i64 0, .int .i64 0, .int .i64 0, .int .i64 0, .int .i64 0, .int .i64 0, .int .i64 0, .int .i64 0]) := hid (Blk.kept (by (with_reducible repeat (first | exact Vr6u1.out | refine Blk.oth ?_ | refine Blk.kept ?_ (below_drew1 _) | refine Blk.kept ?_ (below_alloc _))); done) hbu); have Vr7u2 : Hid (Blk u2 (w.heap.size + 1 + 1 + 1) 54 #[.slice none 0 0, .int .i64 0, .int .i64 0, .int .i64 0, .int .i64 0]) := hid (Blk.kept (by (with_reducible repeat (first | exact Vr7u1.out | refine Blk.oth ?_ | refine Blk.kept ?_ (below_drew1 _) | refine Blk.kept ?_ (below_alloc _))); done) hbu); have Vpu2 : Hid (Blk u2 (w1.heap.size) 64 #[.int .i64 pl.1, .int .i64 pl.2]) := hid (Blk.kept (by (with_reducible repeat (first | exact Vpu1.out | refine Blk.oth ?_ | refine Blk.kept ?_ (below_drew1 _) | refine Blk.kept ?_ (below_alloc _))); done) hbu); have Vmu2 : Hid (Blk u2 (w2.heap.size) 58 #[.int .i64 m.kind, .string (strOfNums m.s), .int .u64 m.n, .slice sa m.b.length sc, .int .i64 m.line, .int .i64 m.col]) := hid (Blk.kept (by (with_reducible repeat (first | exact Vmu1.out | refine Blk.oth ?_ | refine Blk.kept ?_ (below_drew1 _) | refine Blk.kept ?_ (below_alloc _))); done) hbu); have Vnu2 : Hid (Blk u2 (w2.heap.size + 1) 58 #[.int .i64 n.kind, .string (strOfNums n.s), .int .u64 n.n, .slice ta n.b.length tc, .int .i64 n.line, .int .i64 n.col]) := hid (Blk.kept (by (with_reducible repeat (first | exact Vnu1.out | refine Blk.oth ?_ | refine Blk.kept ?_ (below_drew1 _) | refine Blk.kept ?_ (below_alloc _))); done) hbu); (try have X1 : Hid (Blk u2 wm.heap.size 78 #[.string ⟨#[]⟩, .string ⟨#[]⟩, .string ⟨#[]⟩, .int .u64 0, .int .i64 0, .int .i64 0, .int .i64 0, .int .i64 0, .int .i64 0, .int .i64 0, .int .i64 0, .int .i64 0, .int .i64 0, .int .i64 0, .int .i64 0]) := hid (Blk.kept (by with_reducible exact Y1.out) hbu)); (try have X2 : Hid (Blk u2 u1.heap.size 78 #[.string ⟨#[]⟩, .string ⟨#[]⟩, .string ⟨#[]⟩, .int .u64 0, .int .i64 0, .int .i64 0, .int .i64 0, .int .i64 0, .int .i64 0, .int .i64 0, .int .i64 0, .int .i64 0, .int .i64 0, .int .i64 0, .int .i64 0]) := hid (Blk.kept (by with_reducible exact Blk.newAt (w := u1) rfl) hbu)); (try have xx1 := X1.out.cellF); (try have xy1 := X1.out.frz); (try have xx2 := X2.out.cellF); (try have xy2 := X2.out.frz); have hsu2 := hbu.size; (try simp at hsu2); have hbb2 : Hid (Below w.heap.size w u2) := hid (bl_then (by have := hbb1.out; exact blBy) hbu); clear hbu))
    all_goals (go_wp2_with fail; go_meet; first | (have hq := X1; exact ⟨wm.heap.size, rfl, hid (by have := hbb2.out; exact blBy), hid ⟨by omega, by first | (simp; done) | (simp; omega) | omega⟩, hid (blkall15 X1.out), hid (by (with_reducible repeat (first | exact Vsu2.out | refine blkoth15 ?_ (by omega) | refine Blk.oth ?_ | refine Blk.kept ?_ (below_drew1 _) | refine Blk.kept ?_ (below_alloc _))); done), hid (by (with_reducible repeat (first | exact Vr6u2.out | refine blkoth15 ?_ (by omega) | refine Blk.oth ?_ | refine Blk.kept ?_ (below_drew1 _) | refine Blk.kept ?_ (below_alloc _))); done), hid (by (with_reducible repeat (first | exact Vr7u2.out | refine blkoth15 ?_ (by omega) | refine Blk.oth ?_ | refine Blk.kept ?_ (below_drew1 _) | refine Blk.kept ?_ (below_alloc _))); done)⟩) | (have hq := X2; exact ⟨u1.heap.size, rfl, hid (by have := hbb2.out; exact blBy), hid ⟨by omega, by first | (simp; done) | (simp; omega) | omega⟩, hid (blkall15 X2.out), hid (by (with_reducible repeat (first | exact Vsu2.out | refine blkoth15 ?_ (by omega) | refine Blk.oth ?_ | refine Blk.kept ?_ (below_drew1 _) | refine Blk.kept ?_ (below_alloc _))); done), hid (by (with_reducible repeat (first | exact Vr6u2.out | refine blkoth15 ?_ (by omega) | refine Blk.oth ?_ | refine Blk.kept ?_ (below_drew1 _) | refine Blk.kept ?_ (below_alloc _))); done), hid (by (with_reducible repeat (first | exact Vr7u2.out | refine blkoth15 ?_ (by omega) | refine Blk.oth ?_ | refine Blk.kept ?_ (below_drew1 _) | refine Blk.kept ?_ (below_alloc _))); done)⟩) | (exact ⟨u2.heap.size, rfl, hid (by have := hbb2.out; exact blBy), hid ⟨by omega, by first | (simp; done) | (simp; omega) | omega⟩, hid (Blk.newAt rfl), hid (by (with_reducible repeat (first | exact Vsu2.out | refine blkoth15 ?_ (by omega) | refine Blk.oth ?_ | refine Blk.kept ?_ (below_drew1 _) | refine Blk.kept ?_ (below_alloc _))); done), hid (by (with_reducible repeat (first | exact Vr6u2.out | refine blkoth15 ?_ (by omega) | refine Blk.oth ?_ | refine Blk.kept ?_ (below_drew1 _) | refine Blk.kept ?_ (below_alloc _))); done), hid (by (with_reducible repeat (first | exact Vr7u2.out | refine blkoth15 ?_ (by omega) | refine Blk.oth ?_ | refine Blk.kept ?_ (below_drew1 _) | refine Blk.kept ?_ (below_alloc _))); done)⟩))
  case rest =>
    obtain ⟨Q, rfl, hb0, hQ, BF, BS, B6, B7⟩ := hcut
    have hQ1 := hQ.out.1
    have hQ2 := hQ.out.2
    clear Bs xs ys zs Bk xk yk zk Br6 xr6 yr6 zr6 Br7 xr7 yr7 zr7 Bp xp yp zp
    have Bs := BS.out
    have Br6 := B6.out
    have Br7 := B7.out
    have Bf := BF.out
    have xs := Bs.cellF
    have ys := Bs.frz
    have zs : w.heap.size < wc.heap.size := by omega
    have xr6 := Br6.cellF
    have yr6 := Br6.frz
    have zr6 : w.heap.size + 1 + 1 < wc.heap.size := by omega
    have xr7 := Br7.cellF
    have yr7 := Br7.frz
    have zr7 : w.heap.size + 1 + 1 + 1 < wc.heap.size := by omega
    have xf := Bf.cellF
    have yf := Bf.frz
    have zf : Q < wc.heap.size := by omega
    clear BF BS B6 B7 hQ
    by_cases hl : label = 4
    · subst hl
      go_wp2_with fail
      go_region_held3 (fun W => (W.cell? ⟨Q, 0, none⟩ = some (.string (strOfNums m.s)) ∧ W.cell? ⟨Q, 1, none⟩ = some (.string (strOfNums t)) ∧ W.cell? ⟨Q, 2, none⟩ = some (.string ⟨#[]⟩) ∧ W.cell? ⟨Q, 3, none⟩ = some (.int .u64 n.n) ∧ W.cell? ⟨Q, 4, none⟩ = some (.int .i64 4) ∧ W.cell? ⟨Q, 5, none⟩ = some (.int .i64 0) ∧ W.cell? ⟨Q, 6, none⟩ = some (.int .i64 0) ∧ W.cell? ⟨Q, 7, none⟩ = some (.int .i64 m.line) ∧ W.cell? ⟨Q, 8, none⟩ = some (.int .i64 m.col) ∧ W.cell? ⟨Q, 9, none⟩ = some (.int .i64 n.line) ∧ W.cell? ⟨Q, 10, none⟩ = some (.int .i64 n.col) ∧ W.cell? ⟨Q, 11, none⟩ = some (.int .i64 pl.1) ∧ W.cell? ⟨Q, 12, none⟩ = some (.int .i64 pl.2) ∧ W.cell? ⟨Q, 13, none⟩ = some (.int .i64 mkl) ∧ W.cell? ⟨Q, 14, none⟩ = some (.int .i64 mkc)) ∧ (W.cell? ⟨w.heap.size, 0, none⟩ = some (.slice (some ⟨b, o2, none⟩) s2.l.length c2) ∧ W.cell? ⟨w.heap.size, 1, none⟩ = some (.int .i64 s2.cd) ∧ W.cell? ⟨w.heap.size, 2, none⟩ = some (.int .i64 0) ∧ W.cell? ⟨w.heap.size, 3, none⟩ = some (.int .i64 s2.ln) ∧ W.cell? ⟨w.heap.size, 4, none⟩ = some (.int .i64 s2.cl))) ((refine ⟨blkc15 (t := 78) ?_, blkc5 (t := 54) ?_⟩ <;> (with_reducible repeat (first | exact Vfu9.out | exact Vsu9.out | exact Bf | exact Bs | refine Blk.oth ?_ | refine Blk.kept ?_ (below_drew1 _) | refine Blk.kept ?_ (below_alloc _))); done)) (first | (go_at_call 18; refine (eatR w0 b o2 c2 s2 _ ⟨#[59]⟩ [59] rfl (by decide) hst2.out (bl_then HB.out (by have := hb0.out; exact blBy))).mono ?_; rintro e u9 ⟨⟨s9, o9, c9, he9, rfl, hst9⟩, hbu⟩; have Vfu9 : Hid (Blk u9 (Q) 78 #[.string (strOfNums m.s), .string (strOfNums t), .string ⟨#[]⟩, .int .u64 n.n, .int .i64 4, .int .i64 0, .int .i64 0, .int .i64 m.line, .int .i64 m.col, .int .i64 n.line, .int .i64 n.col, .int .i64 pl.1, .int .i64 pl.2, .int .i64 mkl, .int .i64 mkc]) := hid (Blk.kept (by (with_reducible repeat (first | exact Bf | refine Blk.oth ?_ | refine Blk.kept ?_ (below_drew1 _) | refine Blk.kept ?_ (below_alloc _))); done) hbu); have Vsu9 : Hid (Blk u9 (w.heap.size) 54 #[.slice (some ⟨b, o2, none⟩) s2.l.length c2, .int .i64 s2.cd, .int .i64 0, .int .i64 s2.ln, .int .i64 s2.cl]) := hid (Blk.kept (by (with_reducible repeat (first | exact Bs | refine Blk.oth ?_ | refine Blk.kept ?_ (below_drew1 _) | refine Blk.kept ?_ (below_alloc _))); done) hbu); have Vr7u9 : Hid (Blk u9 (w.heap.size + 1 + 1 + 1) 54 #[.slice none 0 0, .int .i64 0, .int .i64 0, .int .i64 0, .int .i64 0]) := hid (Blk.kept (by (with_reducible repeat (first | exact Br7 | refine Blk.oth ?_ | refine Blk.kept ?_ (below_drew1 _) | refine Blk.kept ?_ (below_alloc _))); done) hbu); have vx7 := Vr7u9.out.cellF; have vy7 := Vr7u9.out.frz; have Vr6u9 : Hid (Blk u9 (w.heap.size + 1 + 1) 78 #[.string ⟨#[]⟩, .string ⟨#[]⟩, .string ⟨#[]⟩, .int .u64 0, .int .i64 0, .int .i64 0, .int .i64 0, .int .i64 0, .int .i64 0, .int .i64 0, .int .i64 0, .int .i64 0, .int .i64 0, .int .i64 0, .int .i64 0]) := hid (Blk.kept (by (with_reducible repeat (first | exact Br6 | refine Blk.oth ?_ | refine Blk.kept ?_ (below_drew1 _) | refine Blk.kept ?_ (below_alloc _))); done) hbu); have vx6 := Vr6u9.out.cellF; have vy6 := Vr6u9.out.frz; have hsu := hbu.size; (try simp at hsu); have hbb : Hid (Below w.heap.size w u9) := hid (bl_then (by have := hb0.out; exact blBy) hbu); replace hst9 := hid hst9; clear hbu))
      all_goals go_wp2
      all_goals exact bodyPost_ret (v := .tuple #[.agg #[.string (strOfNums m.s), .string (strOfNums t), .string ⟨#[]⟩, .int .u64 n.n, .int .i64 4, .int .i64 0, .int .i64 0, .int .i64 m.line, .int .i64 m.col, .int .i64 n.line, .int .i64 n.col, .int .i64 pl.1, .int .i64 pl.2, .int .i64 mkl, .int .i64 mkc], .agg #[.slice (some ⟨b, o9, none⟩) s9.l.length c9, .int .i64 s9.cd, .int .i64 0, .int .i64 s9.ln, .int .i64 s9.cl]]) (by simp [results, Tryz.results81, go_sem, vx7, vx6, zr6, zr7]) rfl ⟨⟨(fld [] t pl m n 4 (mkl, mkc)), s9, o9, c9, hid (by unfold fldM; rw [HFA.out, if_neg (fun q => q.1 rfl)]), hid (by unfold fldM; rw [HFA.out, if_neg (fun q => q.1 rfl)]; exact he9.out), rfl, hst9⟩, by have := hbb.out; exact blBy⟩
    · have hl4 : (label == 4) = false := by simpa using hl
      have hi : isM s2 [91] = false := by have := hq.out.resolve_left hl; rw [HFA.out] at this; exact this
      replace hl := hid hl
      go_wp2_with fail
      refine (isR w0 b o2 c2 s2 _ ⟨#[91]⟩ [91] rfl (by decide) hst2.out (bl_then HB.out (by have := hb0.out; exact blBy))).mono ?_
      rintro e v1 ⟨rfl, hb1⟩
      replace Bs : Blk v1 (w.heap.size) 54 #[.slice (some ⟨b, o2, none⟩) s2.l.length c2, .int .i64 s2.cd, .int .i64 0, .int .i64 s2.ln, .int .i64 s2.cl] := Blk.kept (Bs.is (by first | rfl | simp)) hb1
      replace Br6 : Blk v1 (w.heap.size + 1 + 1) 78 #[.string ⟨#[]⟩, .string ⟨#[]⟩, .string ⟨#[]⟩, .int .u64 0, .int .i64 0, .int .i64 0, .int .i64 0, .int .i64 0, .int .i64 0, .int .i64 0, .int .i64 0, .int .i64 0, .int .i64 0, .int .i64 0, .int .i64 0] := Blk.kept (Br6.is (by first | rfl | simp)) hb1
      replace Br7 : Blk v1 (w.heap.size + 1 + 1 + 1) 54 #[.slice none 0 0, .int .i64 0, .int .i64 0, .int .i64 0, .int .i64 0] := Blk.kept (Br7.is (by first | rfl | simp)) hb1
      replace Bf : Blk v1 (Q) 78 #[.string (strOfNums m.s), .string (strOfNums t), .string ⟨#[]⟩, .int .u64 n.n, .int .i64 label, .int .i64 0, .int .i64 0, .int .i64 m.line, .int .i64 m.col, .int .i64 n.line, .int .i64 n.col, .int .i64 pl.1, .int .i64 pl.2, .int .i64 mkl, .int .i64 mkc] := Blk.kept (Bf.is (by first | rfl | simp)) hb1
      clear xs ys xr6 yr6 xr7 yr7 xf yf
      have hs1 := hb1.size
      try simp at hs1
      have xs := Bs.cellF
      have ys := Bs.frz
      replace zs : w.heap.size < v1.heap.size := by omega
      have xr6 := Br6.cellF
      have yr6 := Br6.frz
      replace zr6 : w.heap.size + 1 + 1 < v1.heap.size := by omega
      have xr7 := Br7.cellF
      have yr7 := Br7.frz
      replace zr7 : w.heap.size + 1 + 1 + 1 < v1.heap.size := by omega
      have xf := Bf.cellF
      have yf := Bf.frz
      replace zf : Q < v1.heap.size := by omega
      replace hb1 : Hid (Below w.heap.size w v1) := hid (bl_then (by have := hb0.out; exact blBy) hb1)
      rw [hi]
      go_wp2_with fail
      go_region_held3 (fun W => (W.cell? ⟨Q, 0, none⟩ = some (.string (strOfNums m.s)) ∧ W.cell? ⟨Q, 1, none⟩ = some (.string (strOfNums t)) ∧ W.cell? ⟨Q, 2, none⟩ = some (.string ⟨#[]⟩) ∧ W.cell? ⟨Q, 3, none⟩ = some (.int .u64 n.n) ∧ W.cell? ⟨Q, 4, none⟩ = some (.int .i64 label) ∧ W.cell? ⟨Q, 5, none⟩ = some (.int .i64 0) ∧ W.cell? ⟨Q, 6, none⟩ = some (.int .i64 0) ∧ W.cell? ⟨Q, 7, none⟩ = some (.int .i64 m.line) ∧ W.cell? ⟨Q, 8, none⟩ = some (.int .i64 m.col) ∧ W.cell? ⟨Q, 9, none⟩ = some (.int .i64 n.line) ∧ W.cell? ⟨Q, 10, none⟩ = some (.int .i64 n.col) ∧ W.cell? ⟨Q, 11, none⟩ = some (.int .i64 pl.1) ∧ W.cell? ⟨Q, 12, none⟩ = some (.int .i64 pl.2) ∧ W.cell? ⟨Q, 13, none⟩ = some (.int .i64 mkl) ∧ W.cell? ⟨Q, 14, none⟩ = some (.int .i64 mkc)) ∧ (W.cell? ⟨w.heap.size, 0, none⟩ = some (.slice (some ⟨b, o2, none⟩) s2.l.length c2) ∧ W.cell? ⟨w.heap.size, 1, none⟩ = some (.int .i64 s2.cd) ∧ W.cell? ⟨w.heap.size, 2, none⟩ = some (.int .i64 0) ∧ W.cell? ⟨w.heap.size, 3, none⟩ = some (.int .i64 s2.ln) ∧ W.cell? ⟨w.heap.size, 4, none⟩ = some (.int .i64 s2.cl))) ((refine ⟨blkc15 (t := 78) ?_, blkc5 (t := 54) ?_⟩ <;> (with_reducible repeat (first | exact Vfu9.out | exact Vsu9.out | exact Bf | exact Bs | refine Blk.oth ?_ | refine Blk.kept ?_ (below_drew1 _) | refine Blk.kept ?_ (below_alloc _))); done)) (first | (go_at_call 18; refine (eatR w0 b o2 c2 s2 _ ⟨#[59]⟩ [59] rfl (by decide) hst2.out (bl_then HB.out (by have := hb1.out; exact blBy))).mono ?_; rintro e u9 ⟨⟨s9, o9, c9, he9, rfl, hst9⟩, hbu⟩; have Vfu9 : Hid (Blk u9 (Q) 78 #[.string (strOfNums m.s), .string (strOfNums t), .string ⟨#[]⟩, .int .u64 n.n, .int .i64 label, .int .i64 0, .int .i64 0, .int .i64 m.line, .int .i64 m.col, .int .i64 n.line, .int .i64 n.col, .int .i64 pl.1, .int .i64 pl.2, .int .i64 mkl, .int .i64 mkc]) := hid (Blk.kept (by (with_reducible repeat (first | exact Bf | refine Blk.oth ?_ | refine Blk.kept ?_ (below_drew1 _) | refine Blk.kept ?_ (below_alloc _))); done) hbu); have Vsu9 : Hid (Blk u9 (w.heap.size) 54 #[.slice (some ⟨b, o2, none⟩) s2.l.length c2, .int .i64 s2.cd, .int .i64 0, .int .i64 s2.ln, .int .i64 s2.cl]) := hid (Blk.kept (by (with_reducible repeat (first | exact Bs | refine Blk.oth ?_ | refine Blk.kept ?_ (below_drew1 _) | refine Blk.kept ?_ (below_alloc _))); done) hbu); have Vr7u9 : Hid (Blk u9 (w.heap.size + 1 + 1 + 1) 54 #[.slice none 0 0, .int .i64 0, .int .i64 0, .int .i64 0, .int .i64 0]) := hid (Blk.kept (by (with_reducible repeat (first | exact Br7 | refine Blk.oth ?_ | refine Blk.kept ?_ (below_drew1 _) | refine Blk.kept ?_ (below_alloc _))); done) hbu); have vx7 := Vr7u9.out.cellF; have vy7 := Vr7u9.out.frz; have Vr6u9 : Hid (Blk u9 (w.heap.size + 1 + 1) 78 #[.string ⟨#[]⟩, .string ⟨#[]⟩, .string ⟨#[]⟩, .int .u64 0, .int .i64 0, .int .i64 0, .int .i64 0, .int .i64 0, .int .i64 0, .int .i64 0, .int .i64 0, .int .i64 0, .int .i64 0, .int .i64 0, .int .i64 0]) := hid (Blk.kept (by (with_reducible repeat (first | exact Br6 | refine Blk.oth ?_ | refine Blk.kept ?_ (below_drew1 _) | refine Blk.kept ?_ (below_alloc _))); done) hbu); have vx6 := Vr6u9.out.cellF; have vy6 := Vr6u9.out.frz; have hsu := hbu.size; (try simp at hsu); have hbb : Hid (Below w.heap.size w u9) := hid (bl_then (by have := hb1.out; exact blBy) hbu); replace hst9 := hid hst9; clear hbu))
      all_goals go_wp2
      all_goals exact bodyPost_ret (v := .tuple #[.agg #[.string (strOfNums m.s), .string (strOfNums t), .string ⟨#[]⟩, .int .u64 n.n, .int .i64 label, .int .i64 0, .int .i64 0, .int .i64 m.line, .int .i64 m.col, .int .i64 n.line, .int .i64 n.col, .int .i64 pl.1, .int .i64 pl.2, .int .i64 mkl, .int .i64 mkc], .agg #[.slice (some ⟨b, o9, none⟩) s9.l.length c9, .int .i64 s9.cd, .int .i64 0, .int .i64 s9.ln, .int .i64 s9.cl]]) (by simp [results, Tryz.results81, go_sem, vx7, vx6, zr6, zr7]) rfl ⟨⟨(fld [] t pl m n label (mkl, mkc)), s9, o9, c9, hid (by unfold fldM; rw [HFA.out, if_neg (fun q => by have := q.2; rw [hi] at this; cases this)]), hid (by unfold fldM; rw [HFA.out, if_neg (fun q => by have := q.2; rw [hi] at this; cases this)]; exact he9.out), rfl, hst9⟩, by have := hbb.out; exact blBy⟩
end
end Go.Proofs.YtidimdbnnnpplaaGreatDoor
