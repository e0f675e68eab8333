/-
  The reader of the program parse: symbols, ranges.
  The reader of the program parse: a field's name and number, an option, an import.
-/
import Derived.Test.YtidimdbnnnpplaaGreatDoorCPE
namespace Go.Proofs.YtidimdbnnnpplaaGreatDoor
open Go.RowKit
set_option maxRecDepth 1000000
set_option linter.unusedVariables false
set_option linter.unusedSimpArgs false
set_option maxHeartbeats 8000000
section
variable (w0 : World) (b off cap : Nat) (ms : List Mw) (p : Nat) (w : World) (i : Nat)
theorem symbolW (h : PR w0 b off cap ms p w i) : Calls Tryz.prog 103 #[.pointer (some ⟨p, 0, none⟩)] w fun e w' => Keep (· ≠ p) w w' ∧ ((∃ j y, Hid ((symM (stA ms i)).2 = stA ms j) ∧ Hid (y = (symM (stA ms i)).1) ∧ e = .returned (.agg #[.string (strOfNums y.name), .int .u64 y.num, .int .i64 y.at1.1, .int .i64 y.at1.2, .int .i64 y.nat1.1, .int .i64 y.nat1.2]) ∧ Hid (PR w0 b off cap ms p w' j)) ∨ Fell (symM (stA ms i)).2 e) := by
  have hk0 : Hid (Keep (· ≠ p) w w) := hid (Keep.refl _ _)
  have hpl : p < w.heap.size := h.blk.lt
  have HR0 := hid h
  clear h
  go_enter Tryz.func103, Tryz.ntmps103
  go_wp2_with fail
  refine (numberedW w0 b off cap ms p _ i (by have := HR0.out; exact prBy)).mono ?_
  rintro e w1 ⟨hK1, (⟨j1, m1, n1, sa, sc, ta, tc, he1, hm1, hn1, rfl, ho1, ho2, HR1⟩ | ⟨hcd, rfl⟩)⟩
  case inr =>
    have hk1 : Hid (Keep (· ≠ p) w w1) := hid (Keep.trans (by have := hk0.out; exact kpBy) hK1)
    clear hK1
    go_wp2
    exact ⟨rfl, by have := hk1.out; exact kpBy, .inr (by rw [show (symM (stA ms i)).2 = (namM (stA ms i)).2.2 by unfold symM; simp only [eat_bad hcd]]; exact ⟨hcd, rfl⟩)⟩
  have Br : Blk w1 (w.heap.size) 154 #[.string ⟨#[]⟩, .int .u64 0, .int .i64 0, .int .i64 0, .int .i64 0, .int .i64 0] := Blk.keep ((Blk.newAt (by simp)).is (by first | rfl | simp)) hK1 (show w.heap.size ≠ p by omega)
  have hs1 := hK1.size
  try simp at hs1
  have xr := Br.cellF
  have yr := Br.frz
  have zr : w.heap.size < w1.heap.size := by omega
  have hp1 : p < w1.heap.size := by omega
  have hq1 : w.heap.size ≤ w1.heap.size := by omega
  have hk1 : Hid (Keep (· ≠ p) w w1) := hid (Keep.trans (by have := hk0.out; exact kpBy) hK1)
  clear hK1
  go_wp2_with fail
  refine (skipW w0 b off cap ms p _ j1 ⟨#[59]⟩ [59] rfl plain_sc (by have := HR1.out; exact prBy)).mono ?_
  rintro e w2 ⟨hK2, (⟨j2, ua, uc, he2, rfl, HR2⟩ | ⟨hcd, rfl⟩)⟩
  case inr =>
    have hk2 : Hid (Keep (· ≠ p) w w2) := hid (Keep.trans (by have := hk1.out; exact kpBy) hK2)
    clear hK2
    go_wp2
    exact ⟨rfl, by have := hk2.out; exact kpBy, .inr (by rw [show (symM (stA ms i)).2 = eatM (stA ms j1) [59] by unfold symM; rw [he1.out]]; exact ⟨hcd, rfl⟩)⟩
  replace Br : Blk w2 (w.heap.size) 154 #[.string ⟨#[]⟩, .int .u64 0, .int .i64 0, .int .i64 0, .int .i64 0, .int .i64 0] := Blk.keep (((Br.kept (below_alloc _)).kept (below_alloc _)).is (by first | rfl | simp)) hK2 (show w.heap.size ≠ p by omega)
  have Bm : Blk w2 (w1.heap.size) 159 #[.int .i64 m1.kind, .string (strOfNums m1.s), .int .u64 m1.n, .slice sa m1.b.length sc, .int .i64 m1.line, .int .i64 m1.col] := Blk.keep (((Blk.newAt (by simp)).kept (below_alloc _)).is (by first | rfl | simp)) hK2 (show w1.heap.size ≠ p by omega)
  have Bn : Blk w2 (w1.heap.size + 1) 159 #[.int .i64 n1.kind, .string (strOfNums n1.s), .int .u64 n1.n, .slice ta n1.b.length tc, .int .i64 n1.line, .int .i64 n1.col] := Blk.keep ((Blk.newAt (by simp)).is (by first | rfl | simp)) hK2 (show w1.heap.size + 1 ≠ p by omega)
  clear xr yr
  have hs2 := hK2.size
  try simp at hs2
  have xr := Br.cellF
  have yr := Br.frz
  replace zr : w.heap.size < w2.heap.size := by omega
  have xm := Bm.cellF
  have ym := Bm.frz
  have zm : w1.heap.size < w2.heap.size := by omega
  have xn := Bn.cellF
  have yn := Bn.frz
  have zn : w1.heap.size + 1 < w2.heap.size := by omega
  have hp2 : p < w2.heap.size := by omega
  have hq2 : w.heap.size ≤ w2.heap.size := by omega
  have hk2 : Hid (Keep (· ≠ p) w w2) := hid (Keep.trans (by have := hk1.out; exact kpBy) hK2)
  clear hK2
  go_wp2_with fail
  go_region_held3 (fun W => (W.cell? ⟨w1.heap.size, 0, none⟩ = some (.int .i64 m1.kind) ∧ W.cell? ⟨w1.heap.size, 1, none⟩ = some (.string (strOfNums m1.s)) ∧ W.cell? ⟨w1.heap.size, 2, none⟩ = some (.int .u64 m1.n) ∧ W.cell? ⟨w1.heap.size, 3, none⟩ = some (.slice sa m1.b.length sc) ∧ W.cell? ⟨w1.heap.size, 4, none⟩ = some (.int .i64 m1.line) ∧ W.cell? ⟨w1.heap.size, 5, none⟩ = some (.int .i64 m1.col)) ∧ (W.cell? ⟨w1.heap.size + 1, 0, none⟩ = some (.int .i64 n1.kind) ∧ W.cell? ⟨w1.heap.size + 1, 1, none⟩ = some (.string (strOfNums n1.s)) ∧ W.cell? ⟨w1.heap.size + 1, 2, none⟩ = some (.int .u64 n1.n) ∧ W.cell? ⟨w1.heap.size + 1, 3, none⟩ = some (.slice ta n1.b.length tc) ∧ W.cell? ⟨w1.heap.size + 1, 4, none⟩ = some (.int .i64 n1.line) ∧ W.cell? ⟨w1.heap.size + 1, 5, none⟩ = some (.int .i64 n1.col))) (first | with_reducible exact ⟨blkc6 (((((((V4m.out.other (show w1.heap.size ≠ w.heap.size by omega) _).other (show w1.heap.size ≠ w.heap.size by omega) _).other (show w1.heap.size ≠ w.heap.size by omega) _).other (show w1.heap.size ≠ w.heap.size by omega) _).other (show w1.heap.size ≠ w.heap.size by omega) _).other (show w1.heap.size ≠ w.heap.size by omega) _)), blkc6 (((((((V4n.out.other (show w1.heap.size + 1 ≠ w.heap.size by omega) _).other (show w1.heap.size + 1 ≠ w.heap.size by omega) _).other (show w1.heap.size + 1 ≠ w.heap.size by omega) _).other (show w1.heap.size + 1 ≠ w.heap.size by omega) _).other (show w1.heap.size + 1 ≠ w.heap.size by omega) _).other (show w1.heap.size + 1 ≠ w.heap.size by omega) _))⟩ | with_reducible exact ⟨blkc6 (V4m.out), blkc6 (V4n.out)⟩ | with_reducible exact ⟨blkc6 (V3m.out), blkc6 (V3n.out)⟩ | with_reducible exact ⟨blkc6 ((Bm.kept (below_drew1 _))), blkc6 ((Bn.kept (below_drew1 _)))⟩) (first | (go_at_call_of 100 m1; refine (placeOfW _ m1 sa sc).mono ?_; rintro e w3 ⟨rfl, hbu3⟩; have V3r : Hid (Blk w3 (w.heap.size) 154 #[.string ⟨#[]⟩, .int .u64 0, .int .i64 0, .int .i64 0, .int .i64 0, .int .i64 0]) := hid (Blk.kept ((Br.kept (below_drew1 _))) hbu3); have v3xr := V3r.out.cellF; have v3yr := V3r.out.frz; have V3m : Hid (Blk w3 (w1.heap.size) 159 #[.int .i64 m1.kind, .string (strOfNums m1.s), .int .u64 m1.n, .slice sa m1.b.length sc, .int .i64 m1.line, .int .i64 m1.col]) := hid (Blk.kept ((Bm.kept (below_drew1 _))) hbu3); have v3xm := V3m.out.cellF; have v3ym := V3m.out.frz; have V3n : Hid (Blk w3 (w1.heap.size + 1) 159 #[.int .i64 n1.kind, .string (strOfNums n1.s), .int .u64 n1.n, .slice ta n1.b.length tc, .int .i64 n1.line, .int .i64 n1.col]) := hid (Blk.kept ((Bn.kept (below_drew1 _))) hbu3); have v3xn := V3n.out.cellF; have v3yn := V3n.out.frz; have HR3 : Hid (PR w0 b off cap ms p w3 (j2)) := hid (PR.kept ((by have := HR2.out; exact prBy)) hbu3); have hk3 : Hid (Keep (· ≠ p) w w3) := hid (Keep.trans ((by have := hk2.out; exact kpBy)) (Keep.ofBelow hbu3)); have hs3 := hbu3.size; (try simp at hs3); have hp3 : p < w3.heap.size := (by omega); have hq3 : w.heap.size ≤ w3.heap.size := (by omega); have v3zr : w.heap.size < w3.heap.size := (by omega); have v3zm : w1.heap.size < w3.heap.size := (by omega); have v3zn : w1.heap.size + 1 < w3.heap.size := (by omega); clear hbu3) | (go_at_call_of 100 n1; refine (placeOfW _ n1 ta tc).mono ?_; rintro e w4 ⟨rfl, hbu4⟩; have V4r : Hid (Blk w4 (w.heap.size) 154 #[.string ⟨#[]⟩, .int .u64 0, .int .i64 0, .int .i64 0, .int .i64 0, .int .i64 0]) := hid (Blk.kept (V3r.out) hbu4); have v4xr := V4r.out.cellF; have v4yr := V4r.out.frz; have V4m : Hid (Blk w4 (w1.heap.size) 159 #[.int .i64 m1.kind, .string (strOfNums m1.s), .int .u64 m1.n, .slice sa m1.b.length sc, .int .i64 m1.line, .int .i64 m1.col]) := hid (Blk.kept (V3m.out) hbu4); have v4xm := V4m.out.cellF; have v4ym := V4m.out.frz; have V4n : Hid (Blk w4 (w1.heap.size + 1) 159 #[.int .i64 n1.kind, .string (strOfNums n1.s), .int .u64 n1.n, .slice ta n1.b.length tc, .int .i64 n1.line, .int .i64 n1.col]) := hid (Blk.kept (V3n.out) hbu4); have v4xn := V4n.out.cellF; have v4yn := V4n.out.frz; have HR4 : Hid (PR w0 b off cap ms p w4 (j2)) := hid (PR.kept (HR3.out) hbu4); have hk4 : Hid (Keep (· ≠ p) w w4) := hid (Keep.trans (hk3.out) (Keep.ofBelow hbu4)); have hs4 := hbu4.size; (try simp at hs4); have hp4 : p < w4.heap.size := (by omega); have hq4 : w.heap.size ≤ w4.heap.size := (by omega); have v4zr : w.heap.size < w4.heap.size := (by omega); have v4zm : w1.heap.size < w4.heap.size := (by omega); have v4zn : w1.heap.size + 1 < w4.heap.size := (by omega); clear hbu4))
  clear Br xr yr zr Bm xm ym zm Bn xn yn zn
  clear V3r v3xr v3yr v3zr V3m v3xm v3ym v3zm V3n v3xn v3yn v3zn
  have Br := V4r.out
  have xr := v4xr
  have yr := v4yr
  have zr := v4zr
  clear V4r v4xr v4yr v4zr
  have Bm := V4m.out
  have xm := v4xm
  have ym := v4ym
  have zm := v4zm
  clear V4m v4xm v4ym v4zm
  have Bn := V4n.out
  have xn := v4xn
  have yn := v4yn
  have zn := v4zn
  clear V4n v4xn v4yn v4zn
  go_wp2
  exact bodyPost_ret (v := .agg #[.string (strOfNums m1.s), .int .u64 n1.n, .int .i64 m1.line, .int .i64 m1.col, .int .i64 n1.line, .int .i64 n1.col]) (by simp [results, Tryz.results103, go_sem, xr, zr]) rfl ⟨by have := hk4.out; exact kpBy, .inl ⟨j2, ⟨m1.s, n1.n, atM m1, atM n1⟩, hid (by unfold symM; rw [he1.out]; exact he2.out), hid (by unfold symM; rw [hm1.out, hn1.out]), rfl, hid (by have := HR4.out; exact prBy)⟩⟩
theorem numbersW (h : PR w0 b off cap ms p w i) : Calls Tryz.prog 142 #[.pointer (some ⟨p, 0, none⟩)] w fun e w' => Keep (· ≠ p) w w' ∧ ((∃ j y, Hid ((rngM (stA ms i)).2 = stA ms j) ∧ Hid (y = (rngM (stA ms i)).1) ∧ e = .returned (.agg #[.int .u64 y.low, .int .u64 y.high, .int .i64 y.at1.1, .int .i64 y.at1.2]) ∧ Hid (PR w0 b off cap ms p w' j)) ∨ Fell (rngM (stA ms i)).2 e) := by
  have hk0 : Hid (Keep (· ≠ p) w w) := hid (Keep.refl _ _)
  have hpl : p < w.heap.size := h.blk.lt
  have HR0 := hid h
  clear h
  go_enter Tryz.func142, Tryz.ntmps142
  go_wp2_with fail
  refine (takeW w0 b off cap ms p _ i 2 (by decide) (by have := HR0.out; exact prBy)).mono ?_
  rintro e w1 ⟨hK1, (⟨j1, m1, sa, sc, he1, hm1, rfl, hr1, ho1, HR1⟩ | ⟨hcd, rfl⟩)⟩
  case inr =>
    have hk1 : Hid (Keep (· ≠ p) w w1) := hid (Keep.trans (by have := hk0.out; exact kpBy) hK1)
    clear hK1
    go_wp2
    exact ⟨rfl, by have := hk1.out; exact kpBy, .inr (by rw [show (rngM (stA ms i)).2 = (takeM (stA ms i) 2).2 by unfold rngM; rw [is_bad hcd]; rfl]; exact ⟨hcd, rfl⟩)⟩
  have Br : Blk w1 (w.heap.size) 150 #[.int .u64 0, .int .u64 0, .int .i64 0, .int .i64 0] := Blk.keep ((Blk.newAt (by simp)).is (by first | rfl | simp)) hK1 (show w.heap.size ≠ p by omega)
  have hs1 := hK1.size
  try simp at hs1
  have xr := Br.cellF
  have yr := Br.frz
  have zr : w.heap.size < w1.heap.size := by omega
  have hp1 : p < w1.heap.size := by omega
  have hq1 : w.heap.size ≤ w1.heap.size := by omega
  have hk1 : Hid (Keep (· ≠ p) w w1) := hid (Keep.trans (by have := hk0.out; exact kpBy) hK1)
  clear hK1
  cases hi : isM (stA ms j1) wTo with
  | true =>
    go_wp2_with fail
    refine (isNextW w0 b off cap ms p _ j1 ⟨#[116, 111]⟩ wTo rfl plain_to (by have := HR1.out; exact prBy)).mono ?_
    rintro e w2 ⟨rfl, hb2⟩
    have hK2 := Keep.ofBelow (f := (· ≠ p)) hb2
    have HR2 : Hid (PR w0 b off cap ms p w2 (j1)) := hid (PR.kept (by have := HR1.out; exact prBy) hb2)
    clear hb2
    replace Br : Blk w2 (w.heap.size) 150 #[.int .u64 0, .int .u64 0, .int .i64 0, .int .i64 0] := Blk.keep (((Br.kept (below_alloc _)).kept (below_alloc _)).is (by first | rfl | simp)) hK2 (show w.heap.size ≠ p by omega)
    have Bm : Blk w2 (w1.heap.size) 159 #[.int .i64 m1.kind, .string (strOfNums m1.s), .int .u64 m1.n, .slice sa m1.b.length sc, .int .i64 m1.line, .int .i64 m1.col] := Blk.keep (((Blk.newAt (by simp)).kept (below_alloc _)).is (by first | rfl | simp)) hK2 (show w1.heap.size ≠ p by omega)
    have Bn : Blk w2 (w1.heap.size + 1) 159 #[.int .i64 m1.kind, .string (strOfNums m1.s), .int .u64 m1.n, .slice sa m1.b.length sc, .int .i64 m1.line, .int .i64 m1.col] := Blk.keep ((Blk.newAt (by simp)).is (by first | rfl | simp)) hK2 (show w1.heap.size + 1 ≠ p by omega)
    clear xr yr
    have hs2 := hK2.size
    try simp at hs2
    have xr := Br.cellF
    have yr := Br.frz
    replace zr : w.heap.size < w2.heap.size := by omega
    have xm := Bm.cellF
    have ym := Bm.frz
    have zm : w1.heap.size < w2.heap.size := by omega
    have xn := Bn.cellF
    have yn := Bn.frz
    have zn : w1.heap.size + 1 < w2.heap.size := by omega
    have hp2 : p < w2.heap.size := by omega
    have hq2 : w.heap.size ≤ w2.heap.size := by omega
    have hk2 : Hid (Keep (· ≠ p) w w2) := hid (Keep.trans (by have := hk1.out; exact kpBy) hK2)
    clear hK2
    rw [hi]
    go_wp2_with fail
    refine (skipW w0 b off cap ms p _ j1 ⟨#[116, 111]⟩ wTo rfl plain_to (by have := HR2.out; exact prBy)).mono ?_
    rintro e w3 ⟨hK3, (⟨j2, ua, uc, he2, rfl, HR3⟩ | ⟨hcd, rfl⟩)⟩
    case inr =>
      have hk3 : Hid (Keep (· ≠ p) w w3) := hid (Keep.trans (by have := hk2.out; exact kpBy) hK3)
      clear hK3
      go_wp2
      exact ⟨rfl, by have := hk3.out; exact kpBy, .inr (by rw [show (rngM (stA ms i)).2 = eatM (stA ms j1) wTo by unfold rngM; rw [he1.out, if_pos hi]; simp only [take_bad hcd]]; exact ⟨hcd, rfl⟩)⟩
    replace Br : Blk w3 (w.heap.size) 150 #[.int .u64 0, .int .u64 0, .int .i64 0, .int .i64 0] := Blk.keep (Br.is (by first | rfl | simp)) hK3 (show w.heap.size ≠ p by omega)
    replace Bm : Blk w3 (w1.heap.size) 159 #[.int .i64 m1.kind, .string (strOfNums m1.s), .int .u64 m1.n, .slice sa m1.b.length sc, .int .i64 m1.line, .int .i64 m1.col] := Blk.keep (Bm.is (by first | rfl | simp)) hK3 (show w1.heap.size ≠ p by omega)
    replace Bn : Blk w3 (w1.heap.size + 1) 159 #[.int .i64 m1.kind, .string (strOfNums m1.s), .int .u64 m1.n, .slice sa m1.b.length sc, .int .i64 m1.line, .int .i64 m1.col] := Blk.keep (Bn.is (by first | rfl | simp)) hK3 (show w1.heap.size + 1 ≠ p by omega)
    clear xr yr xm ym xn yn
    have hs3 := hK3.size
    try simp at hs3
    have xr := Br.cellF
    have yr := Br.frz
    replace zr : w.heap.size < w3.heap.size := by omega
    have xm := Bm.cellF
    have ym := Bm.frz
    replace zm : w1.heap.size < w3.heap.size := by omega
    have xn := Bn.cellF
    have yn := Bn.frz
    replace zn : w1.heap.size + 1 < w3.heap.size := by omega
    have hp3 : p < w3.heap.size := by omega
    have hq3 : w.heap.size ≤ w3.heap.size := by omega
    have hk3 : Hid (Keep (· ≠ p) w w3) := hid (Keep.trans (by have := hk2.out; exact kpBy) hK3)
    clear hK3
    go_wp2_with fail
    refine (takeW w0 b off cap ms p _ j2 2 (by decide) (by have := HR3.out; exact prBy)).mono ?_
    rintro e w4 ⟨hK4, (⟨j3, m3, ta, tc, he3, hm3, rfl, hr3, ho3, HR4⟩ | ⟨hcd, rfl⟩)⟩
    case inr =>
      have hk4 : Hid (Keep (· ≠ p) w w4) := hid (Keep.trans (by have := hk3.out; exact kpBy) hK4)
      clear hK4
      go_wp2
      exact ⟨rfl, by have := hk4.out; exact kpBy, .inr (by rw [show (rngM (stA ms i)).2 = (takeM (stA ms j2) 2).2 by unfold rngM; rw [he1.out, if_pos hi, he2.out]]; exact ⟨hcd, rfl⟩)⟩
    replace Br : Blk w4 (w.heap.size) 150 #[.int .u64 0, .int .u64 0, .int .i64 0, .int .i64 0] := Blk.keep (Br.is (by first | rfl | simp)) hK4 (show w.heap.size ≠ p by omega)
    replace Bm : Blk w4 (w1.heap.size) 159 #[.int .i64 m1.kind, .string (strOfNums m1.s), .int .u64 m1.n, .slice sa m1.b.length sc, .int .i64 m1.line, .int .i64 m1.col] := Blk.keep (Bm.is (by first | rfl | simp)) hK4 (show w1.heap.size ≠ p by omega)
    replace Bn : Blk w4 (w1.heap.size + 1) 159 #[.int .i64 m1.kind, .string (strOfNums m1.s), .int .u64 m1.n, .slice sa m1.b.length sc, .int .i64 m1.line, .int .i64 m1.col] := Blk.keep (Bn.is (by first | rfl | simp)) hK4 (show w1.heap.size + 1 ≠ p by omega)
    clear xr yr xm ym xn yn
    have hs4 := hK4.size
    try simp at hs4
    have xr := Br.cellF
    have yr := Br.frz
    replace zr : w.heap.size < w4.heap.size := by omega
    have xm := Bm.cellF
    have ym := Bm.frz
    replace zm : w1.heap.size < w4.heap.size := by omega
    have xn := Bn.cellF
    have yn := Bn.frz
    replace zn : w1.heap.size + 1 < w4.heap.size := by omega
    have hp4 : p < w4.heap.size := by omega
    have hq4 : w.heap.size ≤ w4.heap.size := by omega
    have hk4 : Hid (Keep (· ≠ p) w w4) := hid (Keep.trans (by have := hk3.out; exact kpBy) hK4)
    clear hK4
    go_wp2_with fail
    go_region_held3 (fun W => (W.cell? ⟨w1.heap.size, 0, none⟩ = some (.int .i64 m1.kind) ∧ W.cell? ⟨w1.heap.size, 1, none⟩ = some (.string (strOfNums m1.s)) ∧ W.cell? ⟨w1.heap.size, 2, none⟩ = some (.int .u64 m1.n) ∧ W.cell? ⟨w1.heap.size, 3, none⟩ = some (.slice sa m1.b.length sc) ∧ W.cell? ⟨w1.heap.size, 4, none⟩ = some (.int .i64 m1.line) ∧ W.cell? ⟨w1.heap.size, 5, none⟩ = some (.int .i64 m1.col)) ∧ (W.cell? ⟨w1.heap.size + 1, 0, none⟩ = some (.int .i64 m3.kind) ∧ W.cell? ⟨w1.heap.size + 1, 1, none⟩ = some (.string (strOfNums m3.s)) ∧ W.cell? ⟨w1.heap.size + 1, 2, none⟩ = some (.int .u64 m3.n) ∧ W.cell? ⟨w1.heap.size + 1, 3, none⟩ = some (.slice ta m3.b.length tc) ∧ W.cell? ⟨w1.heap.size + 1, 4, none⟩ = some (.int .i64 m3.line) ∧ W.cell? ⟨w1.heap.size + 1, 5, none⟩ = some (.int .i64 m3.col))) (first | with_reducible exact ⟨blkc6 (((((V5m.out.other (show w1.heap.size ≠ w.heap.size by omega) _).other (show w1.heap.size ≠ w.heap.size by omega) _).other (show w1.heap.size ≠ w.heap.size by omega) _).other (show w1.heap.size ≠ w.heap.size by omega) _)), blkc6 (((((V5n.out.other (show w1.heap.size + 1 ≠ w.heap.size by omega) _).other (show w1.heap.size + 1 ≠ w.heap.size by omega) _).other (show w1.heap.size + 1 ≠ w.heap.size by omega) _).other (show w1.heap.size + 1 ≠ w.heap.size by omega) _))⟩ | with_reducible exact ⟨blkc6 (V5m.out), blkc6 (V5n.out)⟩ | with_reducible exact ⟨blkc6 ((Blk.kept (((((((Bm.other (show w1.heap.size ≠ w1.heap.size + 1 by omega) _).other (show w1.heap.size ≠ w1.heap.size + 1 by omega) _).other (show w1.heap.size ≠ w1.heap.size + 1 by omega) _).other (show w1.heap.size ≠ w1.heap.size + 1 by omega) _).other (show w1.heap.size ≠ w1.heap.size + 1 by omega) _).other (show w1.heap.size ≠ w1.heap.size + 1 by omega) _).is (by first | rfl | simp)) (below_drew1 _))), blkc6 ((Blk.kept (((((((Bn.set 0 _).set 1 _).set 2 _).set 3 _).set 4 _).set 5 _).is (by first | rfl | simp)) (below_drew1 _)))⟩) (first | (go_at_call 100; refine (placeOfW _ m1 sa sc).mono ?_; rintro e w5 ⟨rfl, hbu5⟩; have V5r : Hid (Blk w5 (w.heap.size) 150 #[.int .u64 0, .int .u64 0, .int .i64 0, .int .i64 0]) := hid (Blk.kept ((Blk.kept (((((((Br.other (show w.heap.size ≠ w1.heap.size + 1 by omega) _).other (show w.heap.size ≠ w1.heap.size + 1 by omega) _).other (show w.heap.size ≠ w1.heap.size + 1 by omega) _).other (show w.heap.size ≠ w1.heap.size + 1 by omega) _).other (show w.heap.size ≠ w1.heap.size + 1 by omega) _).other (show w.heap.size ≠ w1.heap.size + 1 by omega) _).is (by first | rfl | simp)) (below_drew1 _))) hbu5); have v5xr := V5r.out.cellF; have v5yr := V5r.out.frz; have V5m : Hid (Blk w5 (w1.heap.size) 159 #[.int .i64 m1.kind, .string (strOfNums m1.s), .int .u64 m1.n, .slice sa m1.b.length sc, .int .i64 m1.line, .int .i64 m1.col]) := hid (Blk.kept ((Blk.kept (((((((Bm.other (show w1.heap.size ≠ w1.heap.size + 1 by omega) _).other (show w1.heap.size ≠ w1.heap.size + 1 by omega) _).other (show w1.heap.size ≠ w1.heap.size + 1 by omega) _).other (show w1.heap.size ≠ w1.heap.size + 1 by omega) _).other (show w1.heap.size ≠ w1.heap.size + 1 by omega) _).other (show w1.heap.size ≠ w1.heap.size + 1 by omega) _).is (by first | rfl | simp)) (below_drew1 _))) hbu5); have v5xm := V5m.out.cellF; have v5ym := V5m.out.frz; have V5n : Hid (Blk w5 (w1.heap.size + 1) 159 #[.int .i64 m3.kind, .string (strOfNums m3.s), .int .u64 m3.n, .slice ta m3.b.length tc, .int .i64 m3.line, .int .i64 m3.col]) := hid (Blk.kept ((Blk.kept (((((((Bn.set 0 _).set 1 _).set 2 _).set 3 _).set 4 _).set 5 _).is (by first | rfl | simp)) (below_drew1 _))) hbu5); have v5xn := V5n.out.cellF; have v5yn := V5n.out.frz; have HR5 : Hid (PR w0 b off cap ms p w5 (j3)) := hid (PR.kept ((by have := HR4.out; exact prBy)) hbu5); have hk5 : Hid (Keep (· ≠ p) w w5) := hid (Keep.trans ((by have := hk4.out; exact kpBy)) (Keep.ofBelow hbu5)); have hs5 := hbu5.size; (try simp at hs5); have hp5 : p < w5.heap.size := (by omega); have hq5 : w.heap.size ≤ w5.heap.size := (by omega); have v5zr : w.heap.size < w5.heap.size := (by omega); have v5zm : w1.heap.size < w5.heap.size := (by omega); have v5zn : w1.heap.size + 1 < w5.heap.size := (by omega); clear hbu5))
    clear Br xr yr zr Bm xm ym zm Bn xn yn zn
    have Br := V5r.out
    have xr := v5xr
    have yr := v5yr
    have zr := v5zr
    clear V5r v5xr v5yr v5zr
    have Bm := V5m.out
    have xm := v5xm
    have ym := v5ym
    have zm := v5zm
    clear V5m v5xm v5ym v5zm
    have Bn := V5n.out
    have xn := v5xn
    have yn := v5yn
    have zn := v5zn
    clear V5n v5xn v5yn v5zn
    go_wp2
    exact bodyPost_ret (v := .agg #[.int .u64 m1.n, .int .u64 m3.n, .int .i64 m1.line, .int .i64 m1.col]) (by simp [results, Tryz.results142, go_sem, xr, zr]) rfl ⟨by have := hk5.out; exact kpBy, .inl ⟨j3, ⟨m1.n, m3.n, atM m1⟩, hid (by unfold rngM; rw [he1.out, if_pos hi, he2.out]; exact he3.out), hid (by unfold rngM; rw [he1.out, if_pos hi, he2.out, hm1.out, hm3.out]), rfl, hid (by have := HR5.out; exact prBy)⟩⟩
  | false =>
    go_wp2_with fail
    refine (isNextW w0 b off cap ms p _ j1 ⟨#[116, 111]⟩ wTo rfl plain_to (by have := HR1.out; exact prBy)).mono ?_
    rintro e w2 ⟨rfl, hb2⟩
    have hK2 := Keep.ofBelow (f := (· ≠ p)) hb2
    have HR2 : Hid (PR w0 b off cap ms p w2 (j1)) := hid (PR.kept (by have := HR1.out; exact prBy) hb2)
    clear hb2
    replace Br : Blk w2 (w.heap.size) 150 #[.int .u64 0, .int .u64 0, .int .i64 0, .int .i64 0] := Blk.keep (((Br.kept (below_alloc _)).kept (below_alloc _)).is (by first | rfl | simp)) hK2 (show w.heap.size ≠ p by omega)
    have Bm : Blk w2 (w1.heap.size) 159 #[.int .i64 m1.kind, .string (strOfNums m1.s), .int .u64 m1.n, .slice sa m1.b.length sc, .int .i64 m1.line, .int .i64 m1.col] := Blk.keep (((Blk.newAt (by simp)).kept (below_alloc _)).is (by first | rfl | simp)) hK2 (show w1.heap.size ≠ p by omega)
    have Bn : Blk w2 (w1.heap.size + 1) 159 #[.int .i64 m1.kind, .string (strOfNums m1.s), .int .u64 m1.n, .slice sa m1.b.length sc, .int .i64 m1.line, .int .i64 m1.col] := Blk.keep ((Blk.newAt (by simp)).is (by first | rfl | simp)) hK2 (show w1.heap.size + 1 ≠ p by omega)
    clear xr yr
    have hs2 := hK2.size
    try simp at hs2
    have xr := Br.cellF
    have yr := Br.frz
    replace zr : w.heap.size < w2.heap.size := by omega
    have xm := Bm.cellF
    have ym := Bm.frz
    have zm : w1.heap.size < w2.heap.size := by omega
    have xn := Bn.cellF
    have yn := Bn.frz
    have zn : w1.heap.size + 1 < w2.heap.size := by omega
    have hp2 : p < w2.heap.size := by omega
    have hq2 : w.heap.size ≤ w2.heap.size := by omega
    have hk2 : Hid (Keep (· ≠ p) w w2) := hid (Keep.trans (by have := hk1.out; exact kpBy) hK2)
    clear hK2
    rw [hi]
    go_wp2_with fail
    go_region_held3 (fun W => (W.cell? ⟨w1.heap.size, 0, none⟩ = some (.int .i64 m1.kind) ∧ W.cell? ⟨w1.heap.size, 1, none⟩ = some (.string (strOfNums m1.s)) ∧ W.cell? ⟨w1.heap.size, 2, none⟩ = some (.int .u64 m1.n) ∧ W.cell? ⟨w1.heap.size, 3, none⟩ = some (.slice sa m1.b.length sc) ∧ W.cell? ⟨w1.heap.size, 4, none⟩ = some (.int .i64 m1.line) ∧ W.cell? ⟨w1.heap.size, 5, none⟩ = some (.int .i64 m1.col)) ∧ (W.cell? ⟨w1.heap.size + 1, 0, none⟩ = some (.int .i64 m1.kind) ∧ W.cell? ⟨w1.heap.size + 1, 1, none⟩ = some (.string (strOfNums m1.s)) ∧ W.cell? ⟨w1.heap.size + 1, 2, none⟩ = some (.int .u64 m1.n) ∧ W.cell? ⟨w1.heap.size + 1, 3, none⟩ = some (.slice sa m1.b.length sc) ∧ W.cell? ⟨w1.heap.size + 1, 4, none⟩ = some (.int .i64 m1.line) ∧ W.cell? ⟨w1.heap.size + 1, 5, none⟩ = some (.int .i64 m1.col))) (first | with_reducible exact ⟨blkc6 (((((V3m.out.other (show w1.heap.size ≠ w.heap.size by omega) _).other (show w1.heap.size ≠ w.heap.size by omega) _).other (show w1.heap.size ≠ w.heap.size by omega) _).other (show w1.heap.size ≠ w.heap.size by omega) _)), blkc6 (((((V3n.out.other (show w1.heap.size + 1 ≠ w.heap.size by omega) _).other (show w1.heap.size + 1 ≠ w.heap.size by omega) _).other (show w1.heap.size + 1 ≠ w.heap.size by omega) _).other (show w1.heap.size + 1 ≠ w.heap.size by omega) _))⟩ | with_reducible exact ⟨blkc6 (V3m.out), blkc6 (V3n.out)⟩ | with_reducible exact ⟨blkc6 ((Bm.kept (below_drew1 _))), blkc6 ((Bn.kept (below_drew1 _)))⟩) (first | (go_at_call 100; refine (placeOfW _ m1 sa sc).mono ?_; rintro e w3 ⟨rfl, hbu3⟩; have V3r : Hid (Blk w3 (w.heap.size) 150 #[.int .u64 0, .int .u64 0, .int .i64 0, .int .i64 0]) := hid (Blk.kept ((Br.kept (below_drew1 _))) hbu3); have v3xr := V3r.out.cellF; have v3yr := V3r.out.frz; have V3m : Hid (Blk w3 (w1.heap.size) 159 #[.int .i64 m1.kind, .string (strOfNums m1.s), .int .u64 m1.n, .slice sa m1.b.length sc, .int .i64 m1.line, .int .i64 m1.col]) := hid (Blk.kept ((Bm.kept (below_drew1 _))) hbu3); have v3xm := V3m.out.cellF; have v3ym := V3m.out.frz; have V3n : Hid (Blk w3 (w1.heap.size + 1) 159 #[.int .i64 m1.kind, .string (strOfNums m1.s), .int .u64 m1.n, .slice sa m1.b.length sc, .int .i64 m1.line, .int .i64 m1.col]) := hid (Blk.kept ((Bn.kept (below_drew1 _))) hbu3); have v3xn := V3n.out.cellF; have v3yn := V3n.out.frz; have HR3 : Hid (PR w0 b off cap ms p w3 (j1)) := hid (PR.kept ((by have := HR2.out; exact prBy)) hbu3); have hk3 : Hid (Keep (· ≠ p) w w3) := hid (Keep.trans ((by have := hk2.out; exact kpBy)) (Keep.ofBelow hbu3)); have hs3 := hbu3.size; (try simp at hs3); have hp3 : p < w3.heap.size := (by omega); have hq3 : w.heap.size ≤ w3.heap.size := (by omega); have v3zr : w.heap.size < w3.heap.size := (by omega); have v3zm : w1.heap.size < w3.heap.size := (by omega); have v3zn : w1.heap.size + 1 < w3.heap.size := (by omega); clear hbu3))
    clear Br xr yr zr Bm xm ym zm Bn xn yn zn
    have Br := V3r.out
    have xr := v3xr
    have yr := v3yr
    have zr := v3zr
    clear V3r v3xr v3yr v3zr
    have Bm := V3m.out
    have xm := v3xm
    have ym := v3ym
    have zm := v3zm
    clear V3m v3xm v3ym v3zm
    have Bn := V3n.out
    have xn := v3xn
    have yn := v3yn
    have zn := v3zn
    clear V3n v3xn v3yn v3zn
    go_wp2
    exact bodyPost_ret (v := .agg #[.int .u64 m1.n, .int .u64 m1.n, .int .i64 m1.line, .int .i64 m1.col]) (by simp [results, Tryz.results142, go_sem, xr, zr]) rfl ⟨by have := hk3.out; exact kpBy, .inl ⟨j1, ⟨m1.n, m1.n, atM m1⟩, hid (by unfold rngM; rw [he1.out, if_neg (by rw [hi]; simp)]), hid (by unfold rngM; rw [he1.out, if_neg (by rw [hi]; simp), hm1.out]), rfl, hid (by have := HR3.out; exact prBy)⟩⟩
end
theorem plain_true : plainW [116, 114, 117, 101] := ⟨by decide, 116, [114, 117, 101], rfl, by decide, by decide⟩
theorem plain_false : plainW [102, 97, 108, 115, 101] := ⟨by decide, 102, [97, 108, 115, 101], rfl, by decide, by decide⟩
theorem plain_lb : plainW [91] := ⟨by decide, 91, [], rfl, by decide, by decide⟩
theorem plain_rb : plainW [93] := ⟨by decide, 93, [], rfl, by decide, by decide⟩
theorem plain_packed : plainW [112, 97, 99, 107, 101, 100] := ⟨by decide, 112, [97, 99, 107, 101, 100], rfl, by decide, by decide⟩
theorem plain_import : plainW [105, 109, 112, 111, 114, 116] := ⟨by decide, 105, [109, 112, 111, 114, 116], rfl, by decide, by decide⟩
/-- What packed says. -/
def pkM (s : PS) : PS := if isM s wTrue = true then eatM s wTrue else eatM s wFalse
def pkN (s : PS) : Int := if isM s wTrue = true then 1 else 2
theorem pk_bad {s : PS} (h : s.cd ≠ 0) : pkM s = s := by unfold pkM; rw [is_bad h, if_neg (by simp), eat_bad h]
section
variable (w0 : World) (b off cap : Nat) (ms : List Mw) (p : Nat) (w : World) (i : Nat)
theorem namedW (f : MF) (h : PR w0 b off cap ms p w i) : Calls Tryz.prog 144 #[.pointer (some ⟨p, 0, none⟩), .agg #[.string (strOfNums f.name), .string (strOfNums f.ty), .string (strOfNums f.key), .int .u64 f.num, .int .i64 f.label, .int .i64 f.packed, .int .i64 f.oneof, .int .i64 f.at1.1, .int .i64 f.at1.2, .int .i64 f.nat1.1, .int .i64 f.nat1.2, .int .i64 f.tat.1, .int .i64 f.tat.2, .int .i64 f.mat.1, .int .i64 f.mat.2]] w fun e w' => Keep (· ≠ p) w w' ∧ ((∃ j g, Hid ((namM (stA ms i)).2.2 = stA ms j) ∧ Hid (g = { f with name := (namM (stA ms i)).1.s, at1 := atM (namM (stA ms i)).1, num := (namM (stA ms i)).2.1.n, nat1 := atM (namM (stA ms i)).2.1 }) ∧ e = .returned (.agg #[.string (strOfNums g.name), .string (strOfNums g.ty), .string (strOfNums g.key), .int .u64 g.num, .int .i64 g.label, .int .i64 g.packed, .int .i64 g.oneof, .int .i64 g.at1.1, .int .i64 g.at1.2, .int .i64 g.nat1.1, .int .i64 g.nat1.2, .int .i64 g.tat.1, .int .i64 g.tat.2, .int .i64 g.mat.1, .int .i64 g.mat.2]) ∧ Hid (okW (namM (stA ms i)).1) ∧ Hid (PR w0 b off cap ms p w' j)) ∨ Fell (namM (stA ms i)).2.2 e) := by
  have hk0 : Hid (Keep (· ≠ p) w w) := hid (Keep.refl _ _)
  have hpl : p < w.heap.size := h.blk.lt
  have HR0 := hid h
  clear h
  go_enter Tryz.func144, Tryz.ntmps144
  go_wp2_with fail
  refine (numberedW w0 b off cap ms p _ i (by have := HR0.out; exact prBy)).mono ?_
  rintro e w1 ⟨hK1, (⟨j1, m1, n1, sa, sc, ta, tc, he1, hm1, hn1, rfl, ho1, ho2, HR1⟩ | ⟨hcd, rfl⟩)⟩
  case inr =>
    have hk1 : Hid (Keep (· ≠ p) w w1) := hid (Keep.trans (by have := hk0.out; exact kpBy) hK1)
    clear hK1
    go_wp2
    exact ⟨rfl, by have := hk1.out; exact kpBy, .inr (⟨hcd, rfl⟩)⟩
  have Bf : Blk w1 (w.heap.size) 143 #[.string (strOfNums f.name), .string (strOfNums f.ty), .string (strOfNums f.key), .int .u64 f.num, .int .i64 f.label, .int .i64 f.packed, .int .i64 f.oneof, .int .i64 f.at1.1, .int .i64 f.at1.2, .int .i64 f.nat1.1, .int .i64 f.nat1.2, .int .i64 f.tat.1, .int .i64 f.tat.2, .int .i64 f.mat.1, .int .i64 f.mat.2] := Blk.keep (((Blk.newAt (by simp)).kept (below_alloc _)).is (by first | rfl | simp)) hK1 (show w.heap.size ≠ p by omega)
  have Br : Blk w1 (w.heap.size + 1) 143 #[.string ⟨#[]⟩, .string ⟨#[]⟩, .string ⟨#[]⟩, .int .u64 0, .int .i64 0, .int .i64 0, .int .i64 0, .int .i64 0, .int .i64 0, .int .i64 0, .int .i64 0, .int .i64 0, .int .i64 0, .int .i64 0, .int .i64 0] := Blk.keep ((Blk.newAt (by simp)).is (by first | rfl | simp)) hK1 (show w.heap.size + 1 ≠ p by omega)
  have hs1 := hK1.size
  try simp at hs1
  have xf := Bf.cellF
  have yf := Bf.frz
  have zf : w.heap.size < w1.heap.size := by omega
  have xr := Br.cellF
  have yr := Br.frz
  have zr : w.heap.size + 1 < w1.heap.size := by omega
  have hp1 : p < w1.heap.size := by omega
  have hq1 : w.heap.size ≤ w1.heap.size := by omega
  have hk1 : Hid (Keep (· ≠ p) w w1) := hid (Keep.trans (by have := hk0.out; exact kpBy) hK1)
  clear hK1
  go_wp2_with fail
  go_region_held3 (fun W => (W.cell? ⟨w1.heap.size, 0, none⟩ = some (.int .i64 m1.kind) ∧ W.cell? ⟨w1.heap.size, 1, none⟩ = some (.string (strOfNums m1.s)) ∧ W.cell? ⟨w1.heap.size, 2, none⟩ = some (.int .u64 m1.n) ∧ W.cell? ⟨w1.heap.size, 3, none⟩ = some (.slice sa m1.b.length sc) ∧ W.cell? ⟨w1.heap.size, 4, none⟩ = some (.int .i64 m1.line) ∧ W.cell? ⟨w1.heap.size, 5, none⟩ = some (.int .i64 m1.col))) (first | with_reducible exact blkc6 ((((V2m.out.other (show w1.heap.size ≠ w.heap.size by omega) _).other (show w1.heap.size ≠ w.heap.size by omega) _).other (show w1.heap.size ≠ w.heap.size by omega) _)) | with_reducible exact blkc6 ((V2m.out.other (show w1.heap.size ≠ w.heap.size by omega) _)) | with_reducible exact blkc6 (V2m.out) | with_reducible exact blkc6 ((Blk.kept (((Blk.newAt (by simp)).kept (below_alloc _)).is (by first | rfl | simp)) (below_drew1 _)))) (first | (go_at_call 100; refine (placeOfW _ m1 sa sc).mono ?_; rintro e w2 ⟨rfl, hbu2⟩; have V2f : Hid (Blk w2 (w.heap.size) 143 #[.string (strOfNums f.name), .string (strOfNums f.ty), .string (strOfNums f.key), .int .u64 f.num, .int .i64 f.label, .int .i64 f.packed, .int .i64 f.oneof, .int .i64 f.at1.1, .int .i64 f.at1.2, .int .i64 f.nat1.1, .int .i64 f.nat1.2, .int .i64 f.tat.1, .int .i64 f.tat.2, .int .i64 f.mat.1, .int .i64 f.mat.2]) := hid (Blk.kept ((Blk.kept (((Bf.kept (below_alloc _)).kept (below_alloc _)).is (by first | rfl | simp)) (below_drew1 _))) hbu2); have v2xf := V2f.out.cellF; have v2yf := V2f.out.frz; have V2r : Hid (Blk w2 (w.heap.size + 1) 143 #[.string ⟨#[]⟩, .string ⟨#[]⟩, .string ⟨#[]⟩, .int .u64 0, .int .i64 0, .int .i64 0, .int .i64 0, .int .i64 0, .int .i64 0, .int .i64 0, .int .i64 0, .int .i64 0, .int .i64 0, .int .i64 0, .int .i64 0]) := hid (Blk.kept ((Blk.kept (((Br.kept (below_alloc _)).kept (below_alloc _)).is (by first | rfl | simp)) (below_drew1 _))) hbu2); have v2xr := V2r.out.cellF; have v2yr := V2r.out.frz; have V2m : Hid (Blk w2 (w1.heap.size) 159 #[.int .i64 m1.kind, .string (strOfNums m1.s), .int .u64 m1.n, .slice sa m1.b.length sc, .int .i64 m1.line, .int .i64 m1.col]) := hid (Blk.kept ((Blk.kept (((Blk.newAt (by simp)).kept (below_alloc _)).is (by first | rfl | simp)) (below_drew1 _))) hbu2); have v2xm := V2m.out.cellF; have v2ym := V2m.out.frz; have V2n : Hid (Blk w2 (w1.heap.size + 1) 159 #[.int .i64 n1.kind, .string (strOfNums n1.s), .int .u64 n1.n, .slice ta n1.b.length tc, .int .i64 n1.line, .int .i64 n1.col]) := hid (Blk.kept ((Blk.kept ((Blk.newAt (by simp)).is (by first | rfl | simp)) (below_drew1 _))) hbu2); have v2xn := V2n.out.cellF; have v2yn := V2n.out.frz; have HR2 : Hid (PR w0 b off cap ms p w2 (j1)) := hid (PR.kept ((by have := HR1.out; exact prBy)) hbu2); have hk2 : Hid (Keep (· ≠ p) w w2) := hid (Keep.trans ((by have := hk1.out; exact kpBy)) (Keep.ofBelow hbu2)); have hs2 := hbu2.size; (try simp at hs2); have hp2 : p < w2.heap.size := (by omega); have hq2 : w.heap.size ≤ w2.heap.size := (by omega); have v2zf : w.heap.size < w2.heap.size := (by omega); have v2zr : w.heap.size + 1 < w2.heap.size := (by omega); have v2zm : w1.heap.size < w2.heap.size := (by omega); have v2zn : w1.heap.size + 1 < w2.heap.size := (by omega); clear hbu2))
  clear Bf xf yf zf Br xr yr zr
  have Bf := V2f.out
  have xf := v2xf
  have yf := v2yf
  have zf := v2zf
  clear V2f v2xf v2yf v2zf
  have Br := V2r.out
  have xr := v2xr
  have yr := v2yr
  have zr := v2zr
  clear V2r v2xr v2yr v2zr
  have Bm := V2m.out
  have xm := v2xm
  have ym := v2ym
  have zm := v2zm
  clear V2m v2xm v2ym v2zm
  have Bn := V2n.out
  have xn := v2xn
  have yn := v2yn
  have zn := v2zn
  clear V2n v2xn v2yn v2zn
  go_wp2_with fail
  go_region_held3 (fun W => (W.cell? ⟨w1.heap.size + 1, 0, none⟩ = some (.int .i64 n1.kind) ∧ W.cell? ⟨w1.heap.size + 1, 1, none⟩ = some (.string (strOfNums n1.s)) ∧ W.cell? ⟨w1.heap.size + 1, 2, none⟩ = some (.int .u64 n1.n) ∧ W.cell? ⟨w1.heap.size + 1, 3, none⟩ = some (.slice ta n1.b.length tc) ∧ W.cell? ⟨w1.heap.size + 1, 4, none⟩ = some (.int .i64 n1.line) ∧ W.cell? ⟨w1.heap.size + 1, 5, none⟩ = some (.int .i64 n1.col))) (first | with_reducible exact blkc6 ((((V3n.out.other (show w1.heap.size + 1 ≠ w.heap.size by omega) _).other (show w1.heap.size + 1 ≠ w.heap.size by omega) _).other (show w1.heap.size + 1 ≠ w.heap.size by omega) _)) | with_reducible exact blkc6 ((V3n.out.other (show w1.heap.size + 1 ≠ w.heap.size by omega) _)) | with_reducible exact blkc6 (V3n.out) | with_reducible exact blkc6 ((Blk.kept ((((Bn.other (show w1.heap.size + 1 ≠ w.heap.size by omega) _).other (show w1.heap.size + 1 ≠ w.heap.size by omega) _).other (show w1.heap.size + 1 ≠ w.heap.size by omega) _).is (by first | rfl | simp)) (below_drew1 _)))) (first | (go_at_call 100; refine (placeOfW _ n1 ta tc).mono ?_; rintro e w3 ⟨rfl, hbu3⟩; have V3f : Hid (Blk w3 (w.heap.size) 143 #[.string (strOfNums m1.s), .string (strOfNums f.ty), .string (strOfNums f.key), .int .u64 f.num, .int .i64 f.label, .int .i64 f.packed, .int .i64 f.oneof, .int .i64 m1.line, .int .i64 m1.col, .int .i64 f.nat1.1, .int .i64 f.nat1.2, .int .i64 f.tat.1, .int .i64 f.tat.2, .int .i64 f.mat.1, .int .i64 f.mat.2]) := hid (Blk.kept ((Blk.kept ((((Bf.set 0 _).set 7 _).set 8 _).is (by first | rfl | simp)) (below_drew1 _))) hbu3); have v3xf := V3f.out.cellF; have v3yf := V3f.out.frz; have V3r : Hid (Blk w3 (w.heap.size + 1) 143 #[.string ⟨#[]⟩, .string ⟨#[]⟩, .string ⟨#[]⟩, .int .u64 0, .int .i64 0, .int .i64 0, .int .i64 0, .int .i64 0, .int .i64 0, .int .i64 0, .int .i64 0, .int .i64 0, .int .i64 0, .int .i64 0, .int .i64 0]) := hid (Blk.kept ((Blk.kept ((((Br.other (show w.heap.size + 1 ≠ w.heap.size by omega) _).other (show w.heap.size + 1 ≠ w.heap.size by omega) _).other (show w.heap.size + 1 ≠ w.heap.size by omega) _).is (by first | rfl | simp)) (below_drew1 _))) hbu3); have v3xr := V3r.out.cellF; have v3yr := V3r.out.frz; have V3m : Hid (Blk w3 (w1.heap.size) 159 #[.int .i64 m1.kind, .string (strOfNums m1.s), .int .u64 m1.n, .slice sa m1.b.length sc, .int .i64 m1.line, .int .i64 m1.col]) := hid (Blk.kept ((Blk.kept ((((Bm.other (show w1.heap.size ≠ w.heap.size by omega) _).other (show w1.heap.size ≠ w.heap.size by omega) _).other (show w1.heap.size ≠ w.heap.size by omega) _).is (by first | rfl | simp)) (below_drew1 _))) hbu3); have v3xm := V3m.out.cellF; have v3ym := V3m.out.frz; have V3n : Hid (Blk w3 (w1.heap.size + 1) 159 #[.int .i64 n1.kind, .string (strOfNums n1.s), .int .u64 n1.n, .slice ta n1.b.length tc, .int .i64 n1.line, .int .i64 n1.col]) := hid (Blk.kept ((Blk.kept ((((Bn.other (show w1.heap.size + 1 ≠ w.heap.size by omega) _).other (show w1.heap.size + 1 ≠ w.heap.size by omega) _).other (show w1.heap.size + 1 ≠ w.heap.size by omega) _).is (by first | rfl | simp)) (below_drew1 _))) hbu3); have v3xn := V3n.out.cellF; have v3yn := V3n.out.frz; have HR3 : Hid (PR w0 b off cap ms p w3 (j1)) := hid (PR.kept ((by have := HR2.out; exact prBy)) hbu3); have hk3 : Hid (Keep (· ≠ p) w w3) := hid (Keep.trans ((by have := hk2.out; exact kpBy)) (Keep.ofBelow hbu3)); have hs3 := hbu3.size; (try simp at hs3); have hp3 : p < w3.heap.size := (by omega); have hq3 : w.heap.size ≤ w3.heap.size := (by omega); have v3zf : w.heap.size < w3.heap.size := (by omega); have v3zr : w.heap.size + 1 < w3.heap.size := (by omega); have v3zm : w1.heap.size < w3.heap.size := (by omega); have v3zn : w1.heap.size + 1 < w3.heap.size := (by omega); clear hbu3))
  clear Bf xf yf zf Br xr yr zr Bm xm ym zm Bn xn yn zn
  have Bf := V3f.out
  have xf := v3xf
  have yf := v3yf
  have zf := v3zf
  clear V3f v3xf v3yf v3zf
  have Br := V3r.out
  have xr := v3xr
  have yr := v3yr
  have zr := v3zr
  clear V3r v3xr v3yr v3zr
  have Bm := V3m.out
  have xm := v3xm
  have ym := v3ym
  have zm := v3zm
  clear V3m v3xm v3ym v3zm
  have Bn := V3n.out
  have xn := v3xn
  have yn := v3yn
  have zn := v3zn
  clear V3n v3xn v3yn v3zn
  go_wp2
  exact bodyPost_ret (v := .agg #[.string (strOfNums m1.s), .string (strOfNums f.ty), .string (strOfNums f.key), .int .u64 n1.n, .int .i64 f.label, .int .i64 f.packed, .int .i64 f.oneof, .int .i64 m1.line, .int .i64 m1.col, .int .i64 n1.line, .int .i64 n1.col, .int .i64 f.tat.1, .int .i64 f.tat.2, .int .i64 f.mat.1, .int .i64 f.mat.2]) (by simp [results, Tryz.results144, go_sem, xr, zr, xf, zf]) rfl ⟨by have := hk3.out; exact kpBy, .inl ⟨j1, (⟨m1.s, f.ty, f.key, n1.n, f.label, f.packed, f.oneof, atM m1, atM n1, f.tat, f.mat⟩ : MF), he1, hid (by rw [← hm1.out, ← hn1.out]), rfl, hid (by rw [← hm1.out]; exact ho1.out), hid (by have := HR3.out; exact prBy)⟩⟩
theorem packedW (h : PR w0 b off cap ms p w i) : Calls Tryz.prog 156 #[.pointer (some ⟨p, 0, none⟩)] w fun e w' => Keep (· ≠ p) w w' ∧ ((∃ j y, Hid (pkM (stA ms i) = stA ms j) ∧ Hid (y = pkN (stA ms i)) ∧ e = .returned (.int .i64 y) ∧ Hid (PR w0 b off cap ms p w' j)) ∨ Fell (pkM (stA ms i)) e) := by
  cases hi : isM (stA ms i) wTrue with
  | true =>
    have HX : Hid (pkM (stA ms i) = eatM (stA ms i) wTrue) := hid (by unfold pkM; rw [if_pos hi])
    have HY : Hid (1 = pkN (stA ms i)) := hid (by unfold pkN; rw [if_pos hi])
    have hk0 : Hid (Keep (· ≠ p) w w) := hid (Keep.refl _ _)
    have hpl : p < w.heap.size := h.blk.lt
    have HR0 := hid h
    clear h
    go_enter Tryz.func156, Tryz.ntmps156
    go_wp2_with fail
    refine (isNextW w0 b off cap ms p _ i ⟨#[116, 114, 117, 101]⟩ wTrue rfl plain_true (by have := HR0.out; exact prBy)).mono ?_
    rintro e w1 ⟨rfl, hb1⟩
    have hK1 := Keep.ofBelow (f := (· ≠ p)) hb1
    have HR1 : Hid (PR w0 b off cap ms p w1 (i)) := hid (PR.kept (by have := HR0.out; exact prBy) hb1)
    clear hb1
    have hs1 := hK1.size
    try simp at hs1
    have hp1 : p < w1.heap.size := by omega
    have hq1 : w.heap.size ≤ w1.heap.size := by omega
    have hk1 : Hid (Keep (· ≠ p) w w1) := hid (Keep.trans (by have := hk0.out; exact kpBy) hK1)
    clear hK1
    rw [hi]
    go_wp2_with fail
    refine (skipW w0 b off cap ms p _ i ⟨#[116, 114, 117, 101]⟩ wTrue rfl plain_true (by have := HR1.out; exact prBy)).mono ?_
    rintro e w2 ⟨hK2, (⟨j2, ua, uc, he2, rfl, HR2⟩ | ⟨hcd, rfl⟩)⟩
    case inr =>
      have hk2 : Hid (Keep (· ≠ p) w w2) := hid (Keep.trans (by have := hk1.out; exact kpBy) hK2)
      clear hK2
      go_wp2
      exact ⟨rfl, by have := hk2.out; exact kpBy, .inr (by rw [HX.out]; exact ⟨hcd, rfl⟩)⟩
    have hs2 := hK2.size
    try simp at hs2
    have hp2 : p < w2.heap.size := by omega
    have hq2 : w.heap.size ≤ w2.heap.size := by omega
    have hk2 : Hid (Keep (· ≠ p) w w2) := hid (Keep.trans (by have := hk1.out; exact kpBy) hK2)
    clear hK2
    go_wp2
    go_ret
    exact ⟨by have := hk2.out; exact kpBy, .inl ⟨j2, 1, hid (by rw [HX.out]; exact he2.out), HY, rfl, hid (by have := HR2.out; exact prBy)⟩⟩
  | false =>
    have HX : Hid (pkM (stA ms i) = eatM (stA ms i) wFalse) := hid (by unfold pkM; rw [if_neg (by rw [hi]; simp)])
    have HY : Hid (2 = pkN (stA ms i)) := hid (by unfold pkN; rw [if_neg (by rw [hi]; simp)])
    have hk0 : Hid (Keep (· ≠ p) w w) := hid (Keep.refl _ _)
    have hpl : p < w.heap.size := h.blk.lt
    have HR0 := hid h
    clear h
    go_enter Tryz.func156, Tryz.ntmps156
    go_wp2_with fail
    refine (isNextW w0 b off cap ms p _ i ⟨#[116, 114, 117, 101]⟩ wTrue rfl plain_true (by have := HR0.out; exact prBy)).mono ?_
    rintro e w1 ⟨rfl, hb1⟩
    have hK1 := Keep.ofBelow (f := (· ≠ p)) hb1
    have HR1 : Hid (PR w0 b off cap ms p w1 (i)) := hid (PR.kept (by have := HR0.out; exact prBy) hb1)
    clear hb1
    have hs1 := hK1.size
    try simp at hs1
    have hp1 : p < w1.heap.size := by omega
    have hq1 : w.heap.size ≤ w1.heap.size := by omega
    have hk1 : Hid (Keep (· ≠ p) w w1) := hid (Keep.trans (by have := hk0.out; exact kpBy) hK1)
    clear hK1
    rw [hi]
    go_wp2_with fail
    refine (skipW w0 b off cap ms p _ i ⟨#[102, 97, 108, 115, 101]⟩ wFalse rfl plain_false (by have := HR1.out; exact prBy)).mono ?_
    rintro e w2 ⟨hK2, (⟨j2, ua, uc, he2, rfl, HR2⟩ | ⟨hcd, rfl⟩)⟩
    case inr =>
      have hk2 : Hid (Keep (· ≠ p) w w2) := hid (Keep.trans (by have := hk1.out; exact kpBy) hK2)
      clear hK2
      go_wp2
      exact ⟨rfl, by have := hk2.out; exact kpBy, .inr (by rw [HX.out]; exact ⟨hcd, rfl⟩)⟩
    have hs2 := hK2.size
    try simp at hs2
    have hp2 : p < w2.heap.size := by omega
    have hq2 : w.heap.size ≤ w2.heap.size := by omega
    have hk2 : Hid (Keep (· ≠ p) w w2) := hid (Keep.trans (by have := hk1.out; exact kpBy) hK2)
    clear hK2
    go_wp2
    go_ret
    exact ⟨by have := hk2.out; exact kpBy, .inl ⟨j2, 2, hid (by rw [HX.out]; exact he2.out), HY, rfl, hid (by have := HR2.out; exact prBy)⟩⟩
theorem optionW (f : MF) (h : PR w0 b off cap ms p w i) : Calls Tryz.prog 145 #[.pointer (some ⟨p, 0, none⟩), .agg #[.string (strOfNums f.name), .string (strOfNums f.ty), .string (strOfNums f.key), .int .u64 f.num, .int .i64 f.label, .int .i64 f.packed, .int .i64 f.oneof, .int .i64 f.at1.1, .int .i64 f.at1.2, .int .i64 f.nat1.1, .int .i64 f.nat1.2, .int .i64 f.tat.1, .int .i64 f.tat.2, .int .i64 f.mat.1, .int .i64 f.mat.2]] w fun e w' => Keep (· ≠ p) w w' ∧ ((∃ j g, Hid ((opM f (stA ms i)).2 = stA ms j) ∧ Hid (g = (opM f (stA ms i)).1) ∧ e = .returned (.agg #[.string (strOfNums g.name), .string (strOfNums g.ty), .string (strOfNums g.key), .int .u64 g.num, .int .i64 g.label, .int .i64 g.packed, .int .i64 g.oneof, .int .i64 g.at1.1, .int .i64 g.at1.2, .int .i64 g.nat1.1, .int .i64 g.nat1.2, .int .i64 g.tat.1, .int .i64 g.tat.2, .int .i64 g.mat.1, .int .i64 g.mat.2]) ∧ Hid (PR w0 b off cap ms p w' j)) ∨ Fell (opM f (stA ms i)).2 e) := by
  have HX : Hid ((opM f (stA ms i)).2 = eatM (pkM (opB (stA ms i))) [93]) := hid (by unfold opM pkM; split <;> rfl)
  have hk0 : Hid (Keep (· ≠ p) w w) := hid (Keep.refl _ _)
  have hpl : p < w.heap.size := h.blk.lt
  have HR0 := hid h
  clear h
  go_enter Tryz.func145, Tryz.ntmps145
  go_wp2_with fail
  refine (skipW w0 b off cap ms p _ i ⟨#[91]⟩ [91] rfl plain_lb (by have := HR0.out; exact prBy)).mono ?_
  rintro e w1 ⟨hK1, (⟨j1, ua, uc, he1, rfl, HR1⟩ | ⟨hcd, rfl⟩)⟩
  case inr =>
    have hk1 : Hid (Keep (· ≠ p) w w1) := hid (Keep.trans (by have := hk0.out; exact kpBy) hK1)
    clear hK1
    go_wp2
    exact ⟨rfl, by have := hk1.out; exact kpBy, .inr (by rw [HX.out, show opB (stA ms i) = eatM (stA ms i) [91] by unfold opB opA; simp only [eat_bad hcd], pk_bad hcd, eat_bad hcd]; exact ⟨hcd, rfl⟩)⟩
  have Bf : Blk w1 (w.heap.size) 143 #[.string (strOfNums f.name), .string (strOfNums f.ty), .string (strOfNums f.key), .int .u64 f.num, .int .i64 f.label, .int .i64 f.packed, .int .i64 f.oneof, .int .i64 f.at1.1, .int .i64 f.at1.2, .int .i64 f.nat1.1, .int .i64 f.nat1.2, .int .i64 f.tat.1, .int .i64 f.tat.2, .int .i64 f.mat.1, .int .i64 f.mat.2] := Blk.keep (((Blk.newAt (by simp)).kept (below_alloc _)).is (by first | rfl | simp)) hK1 (show w.heap.size ≠ p by omega)
  have Br : Blk w1 (w.heap.size + 1) 143 #[.string ⟨#[]⟩, .string ⟨#[]⟩, .string ⟨#[]⟩, .int .u64 0, .int .i64 0, .int .i64 0, .int .i64 0, .int .i64 0, .int .i64 0, .int .i64 0, .int .i64 0, .int .i64 0, .int .i64 0, .int .i64 0, .int .i64 0] := Blk.keep ((Blk.newAt (by simp)).is (by first | rfl | simp)) hK1 (show w.heap.size + 1 ≠ p by omega)
  have hs1 := hK1.size
  try simp at hs1
  have xf := Bf.cellF
  have yf := Bf.frz
  have zf : w.heap.size < w1.heap.size := by omega
  have xr := Br.cellF
  have yr := Br.frz
  have zr : w.heap.size + 1 < w1.heap.size := by omega
  have hp1 : p < w1.heap.size := by omega
  have hq1 : w.heap.size ≤ w1.heap.size := by omega
  have hk1 : Hid (Keep (· ≠ p) w w1) := hid (Keep.trans (by have := hk0.out; exact kpBy) hK1)
  clear hK1
  have HA : Hid (opA (stA ms i) = stA ms j1) := he1
  go_wp2_with fail
  refine (skipW w0 b off cap ms p _ j1 ⟨#[112, 97, 99, 107, 101, 100]⟩ wPacked rfl plain_packed (by have := HR1.out; exact prBy)).mono ?_
  rintro e w2 ⟨hK2, (⟨j2, ta, tc, he2, rfl, HR2⟩ | ⟨hcd, rfl⟩)⟩
  case inr =>
    have hk2 : Hid (Keep (· ≠ p) w w2) := hid (Keep.trans (by have := hk1.out; exact kpBy) hK2)
    clear hK2
    go_wp2
    exact ⟨rfl, by have := hk2.out; exact kpBy, .inr (by rw [HX.out, show opB (stA ms i) = eatM (stA ms j1) wPacked by unfold opB; rw [HA.out]; simp only [eat_bad hcd], pk_bad hcd, eat_bad hcd]; exact ⟨hcd, rfl⟩)⟩
  replace Bf : Blk w2 (w.heap.size) 143 #[.string (strOfNums f.name), .string (strOfNums f.ty), .string (strOfNums f.key), .int .u64 f.num, .int .i64 f.label, .int .i64 f.packed, .int .i64 f.oneof, .int .i64 f.at1.1, .int .i64 f.at1.2, .int .i64 f.nat1.1, .int .i64 f.nat1.2, .int .i64 f.tat.1, .int .i64 f.tat.2, .int .i64 f.mat.1, .int .i64 f.mat.2] := Blk.keep (Bf.is (by first | rfl | simp)) hK2 (show w.heap.size ≠ p by omega)
  replace Br : Blk w2 (w.heap.size + 1) 143 #[.string ⟨#[]⟩, .string ⟨#[]⟩, .string ⟨#[]⟩, .int .u64 0, .int .i64 0, .int .i64 0, .int .i64 0, .int .i64 0, .int .i64 0, .int .i64 0, .int .i64 0, .int .i64 0, .int .i64 0, .int .i64 0, .int .i64 0] := Blk.keep (Br.is (by first | rfl | simp)) hK2 (show w.heap.size + 1 ≠ p by omega)
  clear xf yf xr yr
  have hs2 := hK2.size
  try simp at hs2
  have xf := Bf.cellF
  have yf := Bf.frz
  replace zf : w.heap.size < w2.heap.size := by omega
  have xr := Br.cellF
  have yr := Br.frz
  replace zr : w.heap.size + 1 < w2.heap.size := by omega
  have hp2 : p < w2.heap.size := by omega
  have hq2 : w.heap.size ≤ w2.heap.size := by omega
  have hk2 : Hid (Keep (· ≠ p) w w2) := hid (Keep.trans (by have := hk1.out; exact kpBy) hK2)
  clear hK2
  go_wp2_with fail
  refine (placeOfW _ (hdM (stA ms j1)) ta tc).mono ?_
  rintro e w3 ⟨rfl, hb3⟩
  have hK3 := Keep.ofBelow (f := (· ≠ p)) hb3
  have HR3 : Hid (PR w0 b off cap ms p w3 (j2)) := hid (PR.kept (by have := HR2.out; exact prBy) hb3)
  clear hb3
  replace Bf : Blk w3 (w.heap.size) 143 #[.string (strOfNums f.name), .string (strOfNums f.ty), .string (strOfNums f.key), .int .u64 f.num, .int .i64 f.label, .int .i64 f.packed, .int .i64 f.oneof, .int .i64 f.at1.1, .int .i64 f.at1.2, .int .i64 f.nat1.1, .int .i64 f.nat1.2, .int .i64 f.tat.1, .int .i64 f.tat.2, .int .i64 f.mat.1, .int .i64 f.mat.2] := Blk.keep (Bf.is (by first | rfl | simp)) hK3 (show w.heap.size ≠ p by omega)
  replace Br : Blk w3 (w.heap.size + 1) 143 #[.string ⟨#[]⟩, .string ⟨#[]⟩, .string ⟨#[]⟩, .int .u64 0, .int .i64 0, .int .i64 0, .int .i64 0, .int .i64 0, .int .i64 0, .int .i64 0, .int .i64 0, .int .i64 0, .int .i64 0, .int .i64 0, .int .i64 0] := Blk.keep (Br.is (by first | rfl | simp)) hK3 (show w.heap.size + 1 ≠ p by omega)
  clear xf yf xr yr
  have hs3 := hK3.size
  try simp at hs3
  have xf := Bf.cellF
  have yf := Bf.frz
  replace zf : w.heap.size < w3.heap.size := by omega
  have xr := Br.cellF
  have yr := Br.frz
  replace zr : w.heap.size + 1 < w3.heap.size := by omega
  have hp3 : p < w3.heap.size := by omega
  have hq3 : w.heap.size ≤ w3.heap.size := by omega
  have hk3 : Hid (Keep (· ≠ p) w w3) := hid (Keep.trans (by have := hk2.out; exact kpBy) hK3)
  clear hK3
  go_wp2_with fail
  refine (skipW w0 b off cap ms p _ j2 ⟨#[61]⟩ [61] rfl plain_eq (by have := HR3.out; exact prBy)).mono ?_
  rintro e w4 ⟨hK4, (⟨j4, va, vc, he4, rfl, HR4⟩ | ⟨hcd, rfl⟩)⟩
  case inr =>
    have hk4 : Hid (Keep (· ≠ p) w w4) := hid (Keep.trans (by have := hk3.out; exact kpBy) hK4)
    clear hK4
    go_wp2
    exact ⟨rfl, by have := hk4.out; exact kpBy, .inr (by rw [HX.out, show opB (stA ms i) = eatM (stA ms j2) [61] by unfold opB; rw [HA.out, he2.out], pk_bad hcd, eat_bad hcd]; exact ⟨hcd, rfl⟩)⟩
  replace Bf : Blk w4 (w.heap.size) 143 #[.string (strOfNums f.name), .string (strOfNums f.ty), .string (strOfNums f.key), .int .u64 f.num, .int .i64 f.label, .int .i64 f.packed, .int .i64 f.oneof, .int .i64 f.at1.1, .int .i64 f.at1.2, .int .i64 f.nat1.1, .int .i64 f.nat1.2, .int .i64 f.tat.1, .int .i64 f.tat.2, .int .i64 (hdM (stA ms j1)).line, .int .i64 (hdM (stA ms j1)).col] := Blk.keep (((Bf.set 13 _).set 14 _).is (by first | rfl | simp)) hK4 (show w.heap.size ≠ p by omega)
  replace Br : Blk w4 (w.heap.size + 1) 143 #[.string ⟨#[]⟩, .string ⟨#[]⟩, .string ⟨#[]⟩, .int .u64 0, .int .i64 0, .int .i64 0, .int .i64 0, .int .i64 0, .int .i64 0, .int .i64 0, .int .i64 0, .int .i64 0, .int .i64 0, .int .i64 0, .int .i64 0] := Blk.keep (((Br.other (show w.heap.size + 1 ≠ w.heap.size by omega) _).other (show w.heap.size + 1 ≠ w.heap.size by omega) _).is (by first | rfl | simp)) hK4 (show w.heap.size + 1 ≠ p by omega)
  clear xf yf xr yr
  have hs4 := hK4.size
  try simp at hs4
  have xf := Bf.cellF
  have yf := Bf.frz
  replace zf : w.heap.size < w4.heap.size := by omega
  have xr := Br.cellF
  have yr := Br.frz
  replace zr : w.heap.size + 1 < w4.heap.size := by omega
  have hp4 : p < w4.heap.size := by omega
  have hq4 : w.heap.size ≤ w4.heap.size := by omega
  have hk4 : Hid (Keep (· ≠ p) w w4) := hid (Keep.trans (by have := hk3.out; exact kpBy) hK4)
  clear hK4
  have HBB : Hid (opB (stA ms i) = stA ms j4) := hid (by unfold opB; rw [HA.out, he2.out]; exact he4.out)
  go_wp2_with fail
  refine (packedW w0 b off cap ms p _ j4 (by have := HR4.out; exact prBy)).mono ?_
  rintro e w5 ⟨hK5, (⟨j5, y, he5, hy, rfl, HR5⟩ | ⟨hcd, rfl⟩)⟩
  case inr =>
    have hk5 : Hid (Keep (· ≠ p) w w5) := hid (Keep.trans (by have := hk4.out; exact kpBy) hK5)
    clear hK5
    go_wp2
    exact ⟨rfl, by have := hk5.out; exact kpBy, .inr (by rw [HX.out, HBB.out, eat_bad hcd]; exact ⟨hcd, rfl⟩)⟩
  replace Bf : Blk w5 (w.heap.size) 143 #[.string (strOfNums f.name), .string (strOfNums f.ty), .string (strOfNums f.key), .int .u64 f.num, .int .i64 f.label, .int .i64 f.packed, .int .i64 f.oneof, .int .i64 f.at1.1, .int .i64 f.at1.2, .int .i64 f.nat1.1, .int .i64 f.nat1.2, .int .i64 f.tat.1, .int .i64 f.tat.2, .int .i64 (hdM (stA ms j1)).line, .int .i64 (hdM (stA ms j1)).col] := Blk.keep (Bf.is (by first | rfl | simp)) hK5 (show w.heap.size ≠ p by omega)
  replace Br : Blk w5 (w.heap.size + 1) 143 #[.string ⟨#[]⟩, .string ⟨#[]⟩, .string ⟨#[]⟩, .int .u64 0, .int .i64 0, .int .i64 0, .int .i64 0, .int .i64 0, .int .i64 0, .int .i64 0, .int .i64 0, .int .i64 0, .int .i64 0, .int .i64 0, .int .i64 0] := Blk.keep (Br.is (by first | rfl | simp)) hK5 (show w.heap.size + 1 ≠ p by omega)
  clear xf yf xr yr
  have hs5 := hK5.size
  try simp at hs5
  have xf := Bf.cellF
  have yf := Bf.frz
  replace zf : w.heap.size < w5.heap.size := by omega
  have xr := Br.cellF
  have yr := Br.frz
  replace zr : w.heap.size + 1 < w5.heap.size := by omega
  have hp5 : p < w5.heap.size := by omega
  have hq5 : w.heap.size ≤ w5.heap.size := by omega
  have hk5 : Hid (Keep (· ≠ p) w w5) := hid (Keep.trans (by have := hk4.out; exact kpBy) hK5)
  clear hK5
  go_wp2_with fail
  refine (skipW w0 b off cap ms p _ j5 ⟨#[93]⟩ [93] rfl plain_rb (by have := HR5.out; exact prBy)).mono ?_
  rintro e w6 ⟨hK6, (⟨j6, xa, xc, he6, rfl, HR6⟩ | ⟨hcd, rfl⟩)⟩
  case inr =>
    have hk6 : Hid (Keep (· ≠ p) w w6) := hid (Keep.trans (by have := hk5.out; exact kpBy) hK6)
    clear hK6
    go_wp2
    exact ⟨rfl, by have := hk6.out; exact kpBy, .inr (by rw [HX.out, HBB.out, he5.out]; exact ⟨hcd, rfl⟩)⟩
  replace Bf : Blk w6 (w.heap.size) 143 #[.string (strOfNums f.name), .string (strOfNums f.ty), .string (strOfNums f.key), .int .u64 f.num, .int .i64 f.label, .int .i64 y, .int .i64 f.oneof, .int .i64 f.at1.1, .int .i64 f.at1.2, .int .i64 f.nat1.1, .int .i64 f.nat1.2, .int .i64 f.tat.1, .int .i64 f.tat.2, .int .i64 (hdM (stA ms j1)).line, .int .i64 (hdM (stA ms j1)).col] := Blk.keep ((Bf.set 5 _).is (by first | rfl | simp)) hK6 (show w.heap.size ≠ p by omega)
  replace Br : Blk w6 (w.heap.size + 1) 143 #[.string ⟨#[]⟩, .string ⟨#[]⟩, .string ⟨#[]⟩, .int .u64 0, .int .i64 0, .int .i64 0, .int .i64 0, .int .i64 0, .int .i64 0, .int .i64 0, .int .i64 0, .int .i64 0, .int .i64 0, .int .i64 0, .int .i64 0] := Blk.keep ((Br.other (show w.heap.size + 1 ≠ w.heap.size by omega) _).is (by first | rfl | simp)) hK6 (show w.heap.size + 1 ≠ p by omega)
  clear xf yf xr yr
  have hs6 := hK6.size
  try simp at hs6
  have xf := Bf.cellF
  have yf := Bf.frz
  replace zf : w.heap.size < w6.heap.size := by omega
  have xr := Br.cellF
  have yr := Br.frz
  replace zr : w.heap.size + 1 < w6.heap.size := by omega
  have hp6 : p < w6.heap.size := by omega
  have hq6 : w.heap.size ≤ w6.heap.size := by omega
  have hk6 : Hid (Keep (· ≠ p) w w6) := hid (Keep.trans (by have := hk5.out; exact kpBy) hK6)
  clear hK6
  go_wp2
  exact bodyPost_ret (v := .agg #[.string (strOfNums f.name), .string (strOfNums f.ty), .string (strOfNums f.key), .int .u64 f.num, .int .i64 f.label, .int .i64 y, .int .i64 f.oneof, .int .i64 f.at1.1, .int .i64 f.at1.2, .int .i64 f.nat1.1, .int .i64 f.nat1.2, .int .i64 f.tat.1, .int .i64 f.tat.2, .int .i64 (hdM (stA ms j1)).line, .int .i64 (hdM (stA ms j1)).col]) (by simp [results, Tryz.results145, go_sem, xr, zr, xf, zf]) rfl ⟨by have := hk6.out; exact kpBy, .inl ⟨j6, (⟨f.name, f.ty, f.key, f.num, f.label, y, f.oneof, f.at1, f.nat1, f.tat, atM (hdM (stA ms j1))⟩ : MF), hid (by rw [HX.out, HBB.out, he5.out]; exact he6.out), hid (by rw [hy.out]; unfold opM pkN; rw [HBB.out, HA.out]; split <;> rfl), rfl, hid (by have := HR6.out; exact prBy)⟩⟩
end
end Go.Proofs.YtidimdbnnnpplaaGreatDoor
