/-
  The reader of the program parse: an enum.
  The reader of the program parse: ranges.
  The reader of the program parse: a oneof.
  The reader's tree: a form that gave up is caught by recover.
-/
import Derived.Test.YtidimdbnnnpplaaGreatDoorCPKb
import Derived.Deep.CutRange
import Derived.Test.YtidimdbnnnpplaaGreatDoorCPMb
import Derived.Defers
import Derived.Recover
import Derived.Tactics
import Derived.Tactics2
import Derived.Laws.Pointers
namespace Go.Proofs.YtidimdbnnnpplaaGreatDoor
open Go.RowKit
set_option maxRecDepth 1000000
set_option linter.unusedVariables false
set_option linter.unusedSimpArgs false
set_option maxHeartbeats 8000000
theorem plain_enum : plainW [101, 110, 117, 109] := ⟨by decide, 101, [110, 117, 109], rfl, by decide, by decide⟩
theorem plain_lc : plainW [123] := ⟨by decide, 123, [], rfl, by decide, by decide⟩
theorem plain_rc : plainW [125] := ⟨by decide, 125, [], rfl, by decide, by decide⟩
section
variable (w0 : World) (b off cap : Nat) (ms : List Mw) (p : Nat) (w : World) (i : Nat)
theorem enumW (hml : ms.length ≤ 70000) (h : PR w0 b off cap ms p w i) : Calls Tryz.prog 78 #[.pointer (some ⟨p, 0, none⟩)] w fun e w' => Keep (· ≠ p) w w' ∧ ((∃ j y, Hid ((enmM (stA ms i)).2 = stA ms j) ∧ Hid (y.d = (enmM (stA ms i)).1) ∧ e = .returned (.agg #[.bool y.d.enum, .string (strOfNums y.d.name), .int .i64 y.d.at1.1, .int .i64 y.d.at1.2, y.f, y.o, y.dd, y.r, y.s]) ∧ Hid (RD 1 w' (fun k => w.heap.size ≤ k ∧ k < w'.heap.size) y) ∧ Hid (PR w0 b off cap ms p w' j)) ∨ Fell (enmM (stA ms i)).2 e) := by
  have HML := hid hml
  clear hml
  have hk0 : Hid (Keep (· ≠ p) w w) := hid (Keep.refl _ _)
  have hpl : p < w.heap.size := h.blk.lt
  have HR0 := hid h
  clear h
  go_enter Tryz.func78, Tryz.ntmps78
  go_wp2_with fail
  refine (skipW w0 b off cap ms p _ i ⟨#[101, 110, 117, 109]⟩ wEnum rfl plain_enum (by have := HR0.out; exact prBy)).mono ?_
  rintro e w1 ⟨hK1, (⟨j1, ua, uc, he1, rfl, HR1⟩ | ⟨hcd, rfl⟩)⟩
  case inr =>
    have hk1 : Hid (Keep (· ≠ p) w w1) := hid (Keep.trans (by have := hk0.out; exact kpBy) hK1)
    clear hK1
    go_wp2
    exact ⟨rfl, by have := hk1.out; exact kpBy, .inr (by rw [show (enmM (stA ms i)).2 = eatM (stA ms i) wEnum by unfold enmM enA; simp only [eat_bad hcd, take_bad hcd, symL_bad hcd]]; exact ⟨hcd, rfl⟩)⟩
  have Br : Blk w1 (w.heap.size) 102 #[.bool false, .string ⟨#[]⟩, .int .i64 0, .int .i64 0, .slice none 0 0, .slice none 0 0, .slice none 0 0, .slice none 0 0, .slice none 0 0] := Blk.keep ((Blk.newAt (by simp)).is (by first | rfl | simp)) hK1 (show w.heap.size ≠ p by omega)
  have hs1 := hK1.size
  try simp at hs1
  have xr := Br.cellF
  have yr := Br.frz
  have zr : w.heap.size < w1.heap.size := by omega
  have hp1 : p < w1.heap.size := by omega
  have hq1 : w.heap.size ≤ w1.heap.size := by omega
  have hk1 : Hid (Keep (· ≠ p) w w1) := hid (Keep.trans (by have := hk0.out; exact kpBy) hK1)
  clear hK1
  go_wp2_with fail
  refine (takeW w0 b off cap ms p _ j1 1 (by decide) (by have := HR1.out; exact prBy)).mono ?_
  rintro e w2 ⟨hK2, (⟨j2, m1, sa, sc, he2, hm1, rfl, hr1, ho1, HR2⟩ | ⟨hcd, rfl⟩)⟩
  case inr =>
    have hk2 : Hid (Keep (· ≠ p) w w2) := hid (Keep.trans (by have := hk1.out; exact kpBy) hK2)
    clear hK2
    go_wp2
    exact ⟨rfl, by have := hk2.out; exact kpBy, .inr (by rw [show (enmM (stA ms i)).2 = (takeM (stA ms j1) 1).2 by unfold enmM enA; rw [he1.out]; simp only [eat_bad hcd, symL_bad hcd]]; exact ⟨hcd, rfl⟩)⟩
  replace Br : Blk w2 (w.heap.size) 102 #[.bool false, .string ⟨#[]⟩, .int .i64 0, .int .i64 0, .slice none 0 0, .slice none 0 0, .slice none 0 0, .slice none 0 0, .slice none 0 0] := Blk.keep (Br.is (by first | rfl | simp)) hK2 (show w.heap.size ≠ p by omega)
  clear xr yr
  have hs2 := hK2.size
  try simp at hs2
  have xr := Br.cellF
  have yr := Br.frz
  replace zr : w.heap.size < w2.heap.size := by omega
  have hp2 : p < w2.heap.size := by omega
  have hq2 : w.heap.size ≤ w2.heap.size := by omega
  have hk2 : Hid (Keep (· ≠ p) w w2) := hid (Keep.trans (by have := hk1.out; exact kpBy) hK2)
  clear hK2
  have HEA : Hid (enA (stA ms i) = (m1, stA ms j2)) := hid (by unfold enA; rw [he1.out, hm1.out, ← he2.out])
  go_upto_region 3 with fail
  go_cut [4] from 9 to 13 (fun s4 wc => ∃ Q, s4 = .pointer (some ⟨Q, 0, none⟩) ∧ Hid (PR w0 b off cap ms p wc j2) ∧ Hid (Keep (· ≠ p) w wc) ∧ Hid (w.heap.size < Q ∧ Q < wc.heap.size) ∧ Hid (Blk wc Q 102 #[.bool true, .string (strOfNums m1.s), .int .i64 m1.line, .int .i64 m1.col, .slice none 0 0, .slice none 0 0, .slice none 0 0, .slice none 0 0, .slice none 0 0]) ∧ Hid (Blk wc (w.heap.size) 102 #[.bool false, .string ⟨#[]⟩, .int .i64 0, .int .i64 0, .slice none 0 0, .slice none 0 0, .slice none 0 0, .slice none 0 0, .slice none 0 0]))
  case first =>
    have Bm : Blk (w2.alloc (.cells #[.int .i64 m1.kind, .string (strOfNums m1.s), .int .u64 m1.n, .slice sa m1.b.length sc, .int .i64 m1.line, .int .i64 m1.col] 159)) w2.heap.size 159 #[.int .i64 m1.kind, .string (strOfNums m1.s), .int .u64 m1.n, .slice sa m1.b.length sc, .int .i64 m1.line, .int .i64 m1.col] := Blk.newAt rfl
    have Bq : Blk (w2.alloc (.cells #[.int .i64 m1.kind, .string (strOfNums m1.s), .int .u64 m1.n, .slice sa m1.b.length sc, .int .i64 m1.line, .int .i64 m1.col] 159)) w.heap.size 102 #[.bool false, .string ⟨#[]⟩, .int .i64 0, .int .i64 0, .slice none 0 0, .slice none 0 0, .slice none 0 0, .slice none 0 0, .slice none 0 0] := Br.kept (below_alloc _)
    have HRm : Hid (PR w0 b off cap ms p (w2.alloc (.cells #[.int .i64 m1.kind, .string (strOfNums m1.s), .int .u64 m1.n, .slice sa m1.b.length sc, .int .i64 m1.line, .int .i64 m1.col] 159)) j2) := hid (HR2.out.alloc _)
    have hkm : Hid (Keep (· ≠ p) w (w2.alloc (.cells #[.int .i64 m1.kind, .string (strOfNums m1.s), .int .u64 m1.n, .slice sa m1.b.length sc, .int .i64 m1.line, .int .i64 m1.col] 159))) := hid (kp_alloc hk2.out _)
    have zmm : w2.heap.size < (w2.alloc (.cells #[.int .i64 m1.kind, .string (strOfNums m1.s), .int .u64 m1.n, .slice sa m1.b.length sc, .int .i64 m1.line, .int .i64 m1.col] 159)).heap.size := by simp
    generalize w2.alloc (.cells #[.int .i64 m1.kind, .string (strOfNums m1.s), .int .u64 m1.n, .slice sa m1.b.length sc, .int .i64 m1.line, .int .i64 m1.col] 159) = wm at *
    have xm := Bm.cellF
    go_region_held3 (fun W => W.cell? ⟨w2.heap.size, 0, none⟩ = some (.int .i64 m1.kind) ∧ W.cell? ⟨w2.heap.size, 1, none⟩ = some (.string (strOfNums m1.s)) ∧ W.cell? ⟨w2.heap.size, 2, none⟩ = some (.int .u64 m1.n) ∧ W.cell? ⟨w2.heap.size, 3, none⟩ = some (.slice sa m1.b.length sc) ∧ W.cell? ⟨w2.heap.size, 4, none⟩ = some (.int .i64 m1.line) ∧ W.cell? ⟨w2.heap.size, 5, none⟩ = some (.int .i64 m1.col)) (first | with_reducible exact blkc6 (blkoth9 Vm.out (show w2.heap.size ≠ wm.heap.size by omega)) | with_reducible exact blkc6 (Vm.out.kept (below_alloc _)) | with_reducible exact blkc6 Vm.out | with_reducible exact blkc6 ((Bm.kept (below_drew1 _)).kept (below_alloc _)) | with_reducible exact blkc6 ((Bm.kept (below_alloc _)).kept (below_drew1 _)) | with_reducible exact blkc6 (Bm.kept (below_drew1 _))) (first | (go_at_call 100; refine (placeOfW _ m1 sa sc).mono ?_; rintro e w3 ⟨rfl, hb3⟩; have Vm : Hid (Blk w3 w2.heap.size 159 #[.int .i64 m1.kind, .string (strOfNums m1.s), .int .u64 m1.n, .slice sa m1.b.length sc, .int .i64 m1.line, .int .i64 m1.col]) := hid (Blk.kept (by first | exact Bm.kept (below_drew1 _) | exact (Bm.kept (below_drew1 _)).kept (below_alloc _) | exact (Bm.kept (below_alloc _)).kept (below_drew1 _)) hb3); have Vr : Hid (Blk w3 w.heap.size 102 #[.bool false, .string ⟨#[]⟩, .int .i64 0, .int .i64 0, .slice none 0 0, .slice none 0 0, .slice none 0 0, .slice none 0 0, .slice none 0 0]) := hid (Blk.kept (by first | exact Bq.kept (below_drew1 _) | exact (Bq.kept (below_drew1 _)).kept (below_alloc _) | exact (Bq.kept (below_alloc _)).kept (below_drew1 _)) hb3); (try have Vq : Hid (Blk w3 wm.heap.size 102 #[.bool false, .string ⟨#[]⟩, .int .i64 0, .int .i64 0, .slice none 0 0, .slice none 0 0, .slice none 0 0, .slice none 0 0, .slice none 0 0]) := hid (Blk.kept (by first | exact Blk.newAt (w := wm.drew) rfl | exact (Blk.newAt (w := wm) rfl).kept (below_drew1 _)) hb3)); (try have xq := Vq.out.cellF); (try have yq := Vq.out.frz); have HR3 : Hid (PR w0 b off cap ms p w3 j2) := hid (PR.kept (by have := HRm.out; exact prBy) hb3); have hk3 : Hid (Keep (· ≠ p) w w3) := hid (Keep.trans (by have := hkm.out; exact kpBy) (Keep.ofBelow hb3)); have hs3 := hb3.size; (try simp at hs3); clear hb3))
    · go_wp2_with fail
      go_meet
      (exact ⟨w3.heap.size, rfl, hid (by have := HR3.out; exact prBy), hid (by have := hk3.out; exact kpBy), hid ⟨by omega, by first | (simp; done) | (simp; omega) | omega⟩, hid (Blk.newAt rfl), hid (Vr.out.kept (below_alloc _))⟩)
    · go_wp2_with fail
      go_meet
      (exact ⟨wm.heap.size, rfl, hid (by have := HR3.out; exact prBy), hid (by have := hk3.out; exact kpBy), hid ⟨by omega, by first | (simp; done) | (simp; omega) | omega⟩, hid (blkall9 Vq.out), hid (blkoth9 Vr.out (show w.heap.size ≠ wm.heap.size by omega))⟩)
  case rest =>
    obtain ⟨Q, rfl, HR0, hk0, hQ, BQ, BR⟩ := hcut
    have hQ1 := hQ.out.1
    have hQ2 := hQ.out.2
    clear Br xr yr zr
    have Br := BR.out
    have Bq := BQ.out
    have xr := Br.cellF
    have yr := Br.frz
    have zr : w.heap.size < wc.heap.size := by omega
    have xq := Bq.cellF
    have yq := Bq.frz
    have zq : Q < wc.heap.size := by omega
    go_wp2_with fail
    refine (skipW w0 b off cap ms p _ j2 ⟨#[123]⟩ [123] rfl plain_lc (by have := HR0.out; exact prBy)).mono ?_
    rintro e v1 ⟨hK1, (⟨j3, ua3, uc3, he3, rfl, HR1⟩ | ⟨hcd, rfl⟩)⟩
    case inr =>
      have hk1 : Hid (Keep (· ≠ p) w v1) := hid (Keep.trans (by have := hk0.out; exact kpBy) hK1)
      clear hK1
      go_wp2
      exact ⟨rfl, by have := hk1.out; exact kpBy, .inr (by rw [show (enmM (stA ms i)).2 = eatM (stA ms j2) [123] by unfold enmM; rw [HEA.out]; simp only [eat_bad hcd, symL_bad hcd]]; exact ⟨hcd, rfl⟩)⟩
    replace Br : Blk v1 (w.heap.size) 102 #[.bool false, .string ⟨#[]⟩, .int .i64 0, .int .i64 0, .slice none 0 0, .slice none 0 0, .slice none 0 0, .slice none 0 0, .slice none 0 0] := Blk.keep (Br.is (by first | rfl | simp)) hK1 (show w.heap.size ≠ p by omega)
    replace Bq : Blk v1 (Q) 102 #[.bool true, .string (strOfNums m1.s), .int .i64 m1.line, .int .i64 m1.col, .slice none 0 0, .slice none 0 0, .slice none 0 0, .slice none 0 0, .slice none 0 0] := Blk.keep (Bq.is (by first | rfl | simp)) hK1 (show Q ≠ p by omega)
    clear xr yr xq yq
    have hs1 := hK1.size
    try simp at hs1
    have xr := Br.cellF
    have yr := Br.frz
    replace zr : w.heap.size < v1.heap.size := by omega
    have xq := Bq.cellF
    have yq := Bq.frz
    replace zq : Q < v1.heap.size := by omega
    have hp1 : p < v1.heap.size := by omega
    have hq1 : w.heap.size ≤ v1.heap.size := by omega
    have hk1 : Hid (Keep (· ≠ p) w v1) := hid (Keep.trans (by have := hk0.out; exact kpBy) hK1)
    clear hK1
    have HEM : Hid (enmM (stA ms i) = (⟨true, m1.s, atM m1, [], [], [], [], (symL ([], stA ms j3)).1⟩, eatM (symL ([], stA ms j3)).2 [125])) := hid (by unfold enmM; rw [HEA.out]; simp only []; rw [he3.out])
    go_wp2
    go_loopw [] (fun wr => ∃ j l v, Hid (symL ([], stA ms j3) = symL (l, stA ms j)) ∧ Hid (PR w0 b off cap ms p wr j) ∧ Hid (Keep (· ≠ p) w wr) ∧ Hid (Q < wr.heap.size) ∧ Hid (Blk wr Q 102 #[.bool true, .string (strOfNums m1.s), .int .i64 m1.line, .int .i64 m1.col, .slice none 0 0, .slice none 0 0, .slice none 0 0, .slice none 0 0, v]) ∧ Hid (Blk wr (w.heap.size) 102 #[.bool false, .string ⟨#[]⟩, .int .i64 0, .int .i64 0, .slice none 0 0, .slice none 0 0, .slice none 0 0, .slice none 0 0, .slice none 0 0]) ∧ Hid (wr.ownsRow w.heap.size 154 6 v l.length (l.flatMap cS)) ∧ Hid (l.length + muM (stA ms j) ≤ 70001)) (fun wr => ms.length - ixW wr p)
    case atStart => exact ⟨j3, [], .slice none 0 0, hid rfl, HR1, hk1, hid (by omega), hid Bq, hid Br, hid (World.ownsRow_nil _ _ _ _), hid (by have := mu_st ms j3 HML.out; simp; omega)⟩
    case round =>
      clear Br xr yr zr Bq xq yq zq HR1 hk1
      obtain ⟨j, l, v, hsy, HR, hk, hsz, BQ, BR, HOW, htot⟩ := hrel
      have hm0 := HR.out.ix
      cases hi : isM (stA ms j) [125] with
      | false =>
        have HSG := hid (symL_go (l := l) (s := stA ms j) rfl hi)
        go_wp2_with fail
        refine (isNextW w0 b off cap ms p _ j ⟨#[125]⟩ [125] rfl plain_rc HR.out).mono ?_
        rintro e x1 ⟨rfl, hb1⟩
        rw [hi]
        have HR1 := hid (HR.out.kept hb1)
        have hk1 := hid (hk.out.trans (Keep.ofBelow hb1))
        have BQ1 := hid (BQ.out.kept hb1)
        have BR1 := hid (BR.out.kept hb1)
        have HO1 := hid (own_kept HOW.out hb1)
        have hs1 := hb1.size
        have hsz1 := hsz.out
        clear hb1
        obtain ⟨va, vc, rfl⟩ := own_shape HOW.out
        have xq := BQ1.out.cellF
        have yq := BQ1.out.frz
        go_wp2_with fail
        go_region_law (first | (refine step_append_ran rfl _ _ 100 100 rfl rfl _ _ (.slice la (l.length + 1) lc) x3 rfl rfl HRUN.out ?_) | (go_simp; go_wp2_with (go_at_call 103; refine (symbolW w0 b off cap ms p _ j (by have := HR1.out; exact prBy)).mono ?_; rintro e x2 ⟨hK2, (⟨j2x, y, hy1, hy2, rfl, HR2⟩ | ⟨hcd, rfl⟩)⟩; rotate_left; (have hk2 := hid (Keep.trans (by have := hk1.out; exact kpBy : Keep (· ≠ p) w _) hK2)); (exact ⟨rfl, by have := hk2.out; exact kpBy, .inr (by rw [HEM.out]; simp only []; rw [hsy.out, HSG.out, symL_bad hcd]; simp only [eat_bad hcd]; exact ⟨hcd, rfl⟩)⟩); have BQ2 : Hid (Blk x2 Q 102 #[.bool true, .string (strOfNums m1.s), .int .i64 m1.line, .int .i64 m1.col, .slice none 0 0, .slice none 0 0, .slice none 0 0, .slice none 0 0, .slice va l.length vc]) := hid (Blk.keep (by first | exact BQ1.out | exact BQ1.out.kept (below_drew1 _)) hK2 (show Q ≠ p by omega)); have BR2 : Hid (Blk x2 (w.heap.size) 102 #[.bool false, .string ⟨#[]⟩, .int .i64 0, .int .i64 0, .slice none 0 0, .slice none 0 0, .slice none 0 0, .slice none 0 0, .slice none 0 0]) := hid (Blk.keep (by first | exact BR1.out | exact BR1.out.kept (below_drew1 _)) hK2 (show w.heap.size ≠ p by omega)); have HO2 : Hid (x2.ownsRow w.heap.size 154 6 (.slice va l.length vc) l.length (l.flatMap cS)) := hid (own_keep (f := (· ≠ p)) HO1.out (fun q hq (e : q = p) => by have := (own_type HO1.out hq).1; omega) ⟨hK2.os, hK2.tape, hK2.output, hK2.size, hK2.block⟩); have hk2 := hid (Keep.trans (by have := hk1.out; exact kpBy : Keep (· ≠ p) w _) hK2); have hs2 := hK2.size; (try simp at hs2); have zq2 : Q < x2.heap.size := (by omega); clear hK2; obtain ⟨la, lc, x3, hrun, hown, hgrow⟩ := appendS w.heap.size (.slice va l.length vc) l y x2 HO2.out (by omega) (by have := htot.out; omega); have HRUN := hid hrun; have BQ3 := hid (grow_blk hgrow HO2.out BQ2.out (by decide)); have BR3 := hid (grow_blk hgrow HO2.out BR2.out (by decide)); have HR3 := hid (grow_pr hgrow HO2.out hpl HR2.out); have hk3 := hid (grow_kp hgrow HO2.out (Nat.le_refl _) hk2.out); have HOWN := hid hown; have hs3 := hgrow.size; have xq3 := BQ3.out.cellF; have yq3 := BQ3.out.frz; have xq2 := BQ2.out.cellF; clear hrun hown hgrow)))
        all_goals (go_wp2; exact ⟨⟨j2x, l ++ [y], .slice la (l.length + 1) lc, hid (by rw [hsy.out, HSG.out, ← hy2.out, hy1.out]), hid (by have := HR3.out; exact prBy), hid (by have := hk3.out; exact kpBy), hid (by simp; omega), hid ((BQ3.out.set 8 _).is (by simp)), hid (BR3.out.other (show w.heap.size ≠ Q by omega) _), hid (own_keep (f := (· ≠ Q)) HOWN.out (fun q hq (e : q = Q) => by obtain ⟨_, _, cur, hc⟩ := own_type HOWN.out hq; subst e; have h2 : x3.heap[q]? = _ := BQ3.out; rw [h2] at hc; cases hc) (Keep.setCell _ _ _ (by simp))), hid (by have h1 := htot.out; have h2 : muM (stA ms j2x) < muM (stA ms j) := (by rw [← hy1.out]; exact mu_sym_lt rfl); simp; omega)⟩, by
            have h1 : muM (stA ms j2x) < muM (stA ms j) := by rw [← hy1.out]; exact mu_sym_lt rfl
            have h2 := stA_mu HR.out.lt HR2.out.lt h1
            have h3 := HR2.out.lt
            rw [hm0, PR.ix (w0 := w0) (b := b) (off := off) (cap := cap) (ms := ms) (p := p) (i := j2x) (by have := HR3.out; exact prBy)]
            omega⟩)
      | true =>
        have HSG := hid (symL_stop (l := l) hi)
        go_wp2_with fail
        refine (isNextW w0 b off cap ms p _ j ⟨#[125]⟩ [125] rfl plain_rc HR.out).mono ?_
        rintro e x1 ⟨rfl, hb1⟩
        rw [hi]
        have HR1 := hid (HR.out.kept hb1)
        have hk1 := hid (hk.out.trans (Keep.ofBelow hb1))
        have BQ1 := hid (BQ.out.kept hb1)
        have BR1 := hid (BR.out.kept hb1)
        have HO1 := hid (own_kept HOW.out hb1)
        have hs1 := hb1.size
        have hsz1 := hsz.out
        clear hb1
        go_wp2_with fail
        refine (skipW w0 b off cap ms p _ j ⟨#[125]⟩ [125] rfl plain_rc HR1.out).mono ?_
        rintro e x2 ⟨hK2, (⟨j2x, ta, tc, hy1, rfl, HR2⟩ | ⟨hcd, rfl⟩)⟩
        case inr =>
          have hk2 := hid (hk1.out.trans hK2)
          clear hK2
          go_wp2
          exact ⟨rfl, by have := hk2.out; exact kpBy, .inr (by rw [HEM.out]; simp only []; rw [hsy.out, HSG.out]; exact ⟨hcd, rfl⟩)⟩
        have BQ2 := BQ1.out.keep hK2 (show Q ≠ p by omega)
        have BR2 := BR1.out.keep hK2 (show w.heap.size ≠ p by omega)
        have HO2 := hid (own_keep (f := (· ≠ p)) HO1.out (fun q hq (e : q = p) => by have := (own_type HO1.out hq).1; omega) hK2)
        have hk2 := hid (hk1.out.trans hK2)
        have hs2 := hK2.size
        clear hK2
        have xq := BQ2.cellF
        have yq := BQ2.frz
        have xr := BR2.cellF
        have yr := BR2.frz
        have zr : w.heap.size < x2.heap.size := by omega
        obtain ⟨va, vc, rfl⟩ := own_shape HO2.out
        go_wp2
        exact bodyPost_ret (v := .agg #[.bool true, .string (strOfNums m1.s), .int .i64 m1.line, .int .i64 m1.col, .slice none 0 0, .slice none 0 0, .slice none 0 0, .slice none 0 0, .slice va l.length vc]) (by simp [results, Tryz.results78, go_sem, xr, xq, zr]) rfl ⟨by have := hk2.out; exact kpBy, .inl ⟨j2x, ⟨⟨true, m1.s, atM m1, [], [], [], [], l⟩, .slice none 0 0, .slice none 0 0, .slice none 0 0, .slice none 0 0, .slice va l.length vc⟩, hid (by rw [HEM.out]; simp only []; rw [hsy.out, HSG.out]; exact hy1.out), hid (by rw [HEM.out]; simp only []; rw [hsy.out, HSG.out]), rfl, hid ⟨rowS_nil _ _ _, rowS_nil _ _ _, rowS_nil _ _ _, own_row (own_keep (f := (· ≠ w.heap.size)) HO2.out (fun q hq (e : q = w.heap.size) => by obtain ⟨_, _, cur, hc⟩ := own_type HO2.out hq; subst e; have h2 : x2.heap[w.heap.size]? = _ := BR2; rw [h2] at hc; cases hc) (by exact kpBy)) (fun q hq => ⟨(own_type HO2.out hq).1, by have := (own_type HO2.out hq).2.1; simp; omega⟩), [], rfl, rowS_nil _ _ _, by simp⟩, hid (by have := HR2.out; exact prBy)⟩⟩
end
theorem plain_res : plainW [114, 101, 115, 101, 114, 118, 101, 100] := ⟨by decide, 114, [101, 115, 101, 114, 118, 101, 100], rfl, by decide, by decide⟩
theorem plain_com : plainW [44] := ⟨by decide, 44, [], rfl, by decide, by decide⟩
section
variable (w0 : World) (b off cap : Nat) (ms : List Mw) (p : Nat) (w : World) (i : Nat) (base pd n : Nat)
theorem reservedW (x : DV) (htot : tot x.d + 3 * muM (stA ms i) ≤ 300000) (h : DI w0 b off cap ms p w base pd n w i x) : Calls Tryz.prog 119 #[.pointer (some ⟨p, 0, none⟩), .pointer (some ⟨pd, 0, none⟩)] w fun e w' => (∃ j x', Hid ((resM x.d (stA ms i)).2 = stA ms j) ∧ Hid (x'.d = (resM x.d (stA ms i)).1) ∧ e = .returned (.tuple #[]) ∧ Hid (DI w0 b off cap ms p w base pd n w' j x')) ∨ (Fell (resM x.d (stA ms i)).2 e ∧ Keep (fun k => k ≠ p ∧ k < base) w w') := by
  have hpl : p < w.heap.size := h.pr.blk.lt
  have HI0 := hid h
  have HTT := hid htot
  clear h htot
  obtain ⟨xd, xf, xo, xdd, xr, xs⟩ := x
  dsimp only at *
  obtain ⟨ra, rc, rfl⟩ : ∃ ra rc, xr = .slice ra xd.res.length rc := own_shape HI0.out.own.r
  have HTOT : Hid (xd.res.length ≤ 300000) := hid (by have := HTT.out; unfold tot at this; omega)
  have HX : Hid (resM xd (stA ms i) = ({ xd with res := (rsB xd.res (stA ms i)).1 }, eatM (rsB xd.res (stA ms i)).2 [59])) := hid rfl
  go_enter Tryz.func119, Tryz.ntmps119
  go_wp2_with fail
  refine (skipW w0 b off cap ms p _ i ⟨#[114, 101, 115, 101, 114, 118, 101, 100]⟩ wReserved rfl plain_res HI0.out.pr).mono ?_
  rintro e w1 ⟨hK1, (⟨j1, ua, uc, he1, rfl, HR1⟩ | ⟨hcd, rfl⟩)⟩
  case inr =>
    have hk1 := hid (HI0.out.frame hK1)
    clear hK1
    go_wp2
    exact ⟨rfl, .inr ⟨by rw [HX.out]; unfold rsB; simp only []; rw [show (rngM (eatM (stA ms i) wReserved)).2 = eatM (stA ms i) wReserved from rng_bad hcd, rngL_bad hcd]; simp only [eat_bad hcd]; exact ⟨hcd, rfl⟩, by have := hk1.out; exact kpBy⟩⟩
  have HI1 := hid (HI0.out.reader hK1 HR1.out)
  clear hK1
  have hs0 := HI1.out.blk.lt
  have xb1 := HI1.out.blk.cellF
  have yb1 := HI1.out.blk.frz
  have hlo := HI0.out.lo
  have hup := HI0.out.up
  have HRB : Hid (rsB xd.res (stA ms i) = rngL (xd.res ++ [(rngM (stA ms j1)).1], (rngM (stA ms j1)).2)) := hid (by unfold rsB; rw [he1.out])
  go_upto_region 1 with fail
  go_cut [] from 6 to 16 (fun wc => ∃ j2 y v, Hid ((rngM (stA ms j1)).2 = stA ms j2) ∧ Hid (y = (rngM (stA ms j1)).1) ∧ Hid (DI w0 b off cap ms p w base pd n wc j2 ⟨{ xd with res := xd.res ++ [y] }, xf, xo, xdd, v, xs⟩))
  case first =>
    go_region_law (first | (refine step_append_ran rfl _ _ 99 99 rfl rfl _ _ (.slice law2 (xd.res.length + 1) lcw2) w3 rfl rfl HRUNw2.out ?_) | (go_simp; go_wp2_with (go_at_call 142; refine (numbersW w0 b off cap ms p _ j1 (by have := HI1.out.pr; exact prBy)).mono ?_; rintro e w2 ⟨hKw2, (⟨jw2, yw2, hy1w2, hy2w2, rfl, HRw2⟩ | ⟨hcd, rfl⟩)⟩; rotate_left; (have hkw2 := hid (HI1.out.frame (show Keep (· ≠ p) _ w2 from ⟨hKw2.os, hKw2.tape, hKw2.output, hKw2.size, hKw2.block⟩)); exact ⟨rfl, .inr ⟨by rw [HX.out, HRB.out, rngL_bad hcd]; simp only [eat_bad hcd]; exact ⟨hcd, rfl⟩, by have := hkw2.out; exact kpBy⟩⟩); have HIw2 : Hid (DI w0 b off cap ms p w base pd n w2 jw2 ⟨xd, xf, xo, xdd, .slice ra xd.res.length rc, xs⟩) := hid ((HI1.out.kept (by first | exact Below.refl _ _ | exact below_drew1 _)).reader hKw2 HRw2.out); have hsw2 := hKw2.size; (try simp at hsw2); clear hKw2; obtain ⟨law2, lcw2, w3, hrunw2, hownw2, hgroww2⟩ := appendR base (.slice ra xd.res.length rc) xd.res yw2 w2 HIw2.out.own.r HIw2.out.base_le (by have := HTOT.out; omega); have HRUNw2 := hid hrunw2; have HIw3 := hid (HIw2.out.addR hgroww2 hownw2); have xbw2 := HIw2.out.blk.cellF; have zbw2 := HIw2.out.blk.lt; have HBw3 : Blk w3 pd 102 _ := (HIw2.out.blk.keep (Keep.ofGrow (f := fun q => (Value.slice ra xd.res.length rc).ownBlock ≠ some q) hgroww2 (fun _ hk => hk)) (fun hk => HIw2.out.own.me pd (.inr (.inr (.inr (.inl hk)))) rfl)); have xbw3 := HBw3.cellF; have ybw3 := HBw3.frz; clear hrunw2 hownw2 hgroww2 HBw3)))
    all_goals (go_wp2_with fail; go_meet; exact ⟨jw2, yw2, _, hy1w2, hy2w2, HIw3⟩)
  case rest =>
    obtain ⟨j2, y, v, he2, hy, HIc⟩ := hcut
    clear xb1 yb1 hs0 HI1 HR1
    have HTB : Hid ((xd.res ++ [y]).length + 3 * muM (stA ms j2) ≤ 300000) := hid (by
      have h1 := HTT.out
      have h2 : muM (stA ms j2) ≤ muM (stA ms j1) := by rw [← he2.out]; exact mu_rng _
      have h3 : muM (stA ms j1) < muM (stA ms i) := by rw [← he1.out]; exact mu_eat_lt rfl _
      unfold tot at h1
      simp
      omega)
    go_wp2
    go_loopw [] (fun wr => ∃ j l v, Hid (rngL (xd.res ++ [y], stA ms j2) = rngL (l, stA ms j)) ∧ Hid (DI w0 b off cap ms p w base pd n wr j ⟨{ xd with res := l }, xf, xo, xdd, v, xs⟩) ∧ Hid (l.length + 3 * muM (stA ms j) ≤ 300000)) (fun wr => ms.length - ixW wr p)
    case atStart => exact ⟨j2, xd.res ++ [y], v, hid rfl, HIc, HTB⟩
    case round =>
      clear HIc HTB
      obtain ⟨j, l, v, hrl, HI, htb⟩ := hrel
      have hm0 := HI.out.pr.ix
      have HTL : Hid (l.length ≤ 300000) := hid (by have := htb.out; omega)
      obtain ⟨sa, sc, rfl⟩ : ∃ sa sc, v = .slice sa l.length sc := own_shape HI.out.own.r
      cases hi : isM (stA ms j) [44] with
      | true =>
        have HSG := hid (rngL_go (l := l) hi)
        go_wp2_with fail
        refine (isNextW w0 b off cap ms p _ j ⟨#[44]⟩ [44] rfl plain_com HI.out.pr).mono ?_
        rintro e x1 ⟨rfl, hb1⟩
        rw [hi]
        have HI1 := hid (HI.out.kept hb1)
        clear hb1
        go_wp2_with fail
        refine (skipW w0 b off cap ms p _ j ⟨#[44]⟩ [44] rfl plain_com HI1.out.pr).mono ?_
        rintro e x2 ⟨hK2, (⟨k2, ta, tc, hf2, rfl, HR2⟩ | ⟨hcd, rfl⟩)⟩
        case inr =>
          have hk2 := hid (HI1.out.frame hK2)
          clear hK2
          go_wp2
          exact ⟨rfl, .inr ⟨by rw [HX.out, HRB.out, ← hy.out, he2.out, hrl.out, HSG.out, show (rngM (eatM (stA ms j) [44])).2 = eatM (stA ms j) [44] from rng_bad hcd, rngL_bad hcd]; simp only [eat_bad hcd]; exact ⟨hcd, rfl⟩, by have := hk2.out; exact kpBy⟩⟩
        have HI2 := hid (HI1.out.reader hK2 HR2.out)
        clear hK2
        have hs2 := HI2.out.blk.lt
        have xb2 := HI2.out.blk.cellF
        have yb2 := HI2.out.blk.frz
        go_wp2_with fail
        go_region_law (first | (refine step_append_ran rfl _ _ 99 99 rfl rfl _ _ (.slice lax3 (l.length + 1) lcx3) x4 rfl rfl HRUNx3.out ?_) | (go_simp; go_wp2_with (go_at_call 142; refine (numbersW w0 b off cap ms p _ k2 (by have := HI2.out.pr; exact prBy)).mono ?_; rintro e x3 ⟨hKx3, (⟨jx3, yx3, hy1x3, hy2x3, rfl, HRx3⟩ | ⟨hcd, rfl⟩)⟩; rotate_left; (have hkx3 := hid (HI2.out.frame (show Keep (· ≠ p) _ x3 from ⟨hKx3.os, hKx3.tape, hKx3.output, hKx3.size, hKx3.block⟩)); exact ⟨rfl, .inr ⟨by rw [HX.out, HRB.out, ← hy.out, he2.out, hrl.out, HSG.out, hf2.out, rngL_bad hcd]; simp only [eat_bad hcd]; exact ⟨hcd, rfl⟩, by have := hkx3.out; exact kpBy⟩⟩); have HIx3 : Hid (DI w0 b off cap ms p w base pd n x3 jx3 ⟨{ xd with res := l }, xf, xo, xdd, .slice sa l.length sc, xs⟩) := hid ((HI2.out.kept (by first | exact Below.refl _ _ | exact below_drew1 _)).reader hKx3 HRx3.out); have hsx3 := hKx3.size; (try simp at hsx3); clear hKx3; obtain ⟨lax3, lcx3, x4, hrunx3, hownx3, hgrowx3⟩ := appendR base (.slice sa l.length sc) l yx3 x3 HIx3.out.own.r HIx3.out.base_le (by have := HTL.out; omega); have HRUNx3 := hid hrunx3; have HIx4 := hid (HIx3.out.addR hgrowx3 hownx3); have xbx3 := HIx3.out.blk.cellF; have zbx3 := HIx3.out.blk.lt; have HBx4 : Blk x4 pd 102 _ := (HIx3.out.blk.keep (Keep.ofGrow (f := fun q => (Value.slice sa l.length sc).ownBlock ≠ some q) hgrowx3 (fun _ hk => hk)) (fun hk => HIx3.out.own.me pd (.inr (.inr (.inr (.inl hk)))) rfl)); have xbx4 := HBx4.cellF; have ybx4 := HBx4.frz; clear hrunx3 hownx3 hgrowx3 HBx4)))
        all_goals (go_wp2; exact ⟨⟨jx3, l ++ [yx3], _, hid (by rw [hrl.out, HSG.out, hf2.out, ← hy2x3.out, hy1x3.out]), HIx4, hid (by
          have h1 := htb.out
          have h2 : muM (stA ms jx3) ≤ muM (stA ms k2) := by rw [← hy1x3.out]; exact mu_rng _
          have h3 : muM (stA ms k2) < muM (stA ms j) := by rw [← hf2.out]; exact mu_eat_lt rfl _
          simp
          omega)⟩, by
          have h2 : muM (stA ms jx3) ≤ muM (stA ms k2) := by rw [← hy1x3.out]; exact mu_rng _
          have h3 : muM (stA ms k2) < muM (stA ms j) := by rw [← hf2.out]; exact mu_eat_lt rfl _
          have h4 := stA_mu HI.out.pr.lt HIx4.out.pr.lt (by omega)
          have h5 := HIx4.out.pr.lt
          rw [hm0, HIx4.out.pr.ix]
          omega⟩)
      | false =>
        have HSG := hid (rngL_stop (l := l) hi)
        go_wp2_with fail
        refine (isNextW w0 b off cap ms p _ j ⟨#[44]⟩ [44] rfl plain_com HI.out.pr).mono ?_
        rintro e x1 ⟨rfl, hb1⟩
        rw [hi]
        have HI1 := hid (HI.out.kept hb1)
        clear hb1
        go_wp2_with fail
        refine (skipW w0 b off cap ms p _ j ⟨#[59]⟩ [59] rfl plain_sc HI1.out.pr).mono ?_
        rintro e x2 ⟨hK2, (⟨k2, ta, tc, hf2, rfl, HR2⟩ | ⟨hcd, rfl⟩)⟩
        case inr =>
          have hk2 := hid (HI1.out.frame hK2)
          clear hK2
          go_wp2
          exact ⟨rfl, .inr ⟨by rw [HX.out, HRB.out, ← hy.out, he2.out, hrl.out, HSG.out]; exact ⟨hcd, rfl⟩, by have := hk2.out; exact kpBy⟩⟩
        have HI2 := hid (HI1.out.reader hK2 HR2.out)
        clear hK2
        go_wp2
        go_end0
        exact .inl ⟨k2, ⟨{ xd with res := l }, xf, xo, xdd, .slice sa l.length sc, xs⟩, hid (by rw [HX.out, HRB.out, ← hy.out, he2.out, hrl.out, HSG.out]; exact hf2.out), hid (by rw [HX.out, HRB.out, ← hy.out, he2.out, hrl.out, HSG.out]), rfl, HI2⟩
end
theorem plain_oneof : plainW [111, 110, 101, 111, 102] := ⟨by decide, 111, [110, 101, 111, 102], rfl, by decide, by decide⟩
theorem oneL_go {i : Int} {l : List MF} {s : PS} (h0 : s.cd = 0) (h : isM s [125] = false) : oneL i (l, s) = oneL i (l ++ [(oneM i s).1], (oneM i s).2) := by
  unfold oneL
  exact whM_go (p := fun x : List MF × PS => x.2) (x := (l, s)) (one_dec i) (by unfold endC; simp [h0, h])
theorem oneL_stop {i : Int} {l : List MF} {s : PS} (h : isM s [125] = true) : oneL i (l, s) = (l, s) := by
  unfold oneL
  exact whM_stop (by unfold endC; simp [h])
theorem mu_one_lt {i : Int} {s : PS} (h : s.cd = 0) : muM (oneM i s).2 < muM s := mu_fld_lt h _ _
section
variable (w0 : World) (b off cap : Nat) (ms : List Mw) (p : Nat) (w : World) (i : Nat) (base pd n : Nat)
theorem oneofW (x : DV) (hml : ms.length ≤ 70000) (htot : tot x.d + 3 * muM (stA ms i) ≤ 300000) (h : DI w0 b off cap ms p w base pd n w i x) : Calls Tryz.prog 118 #[.pointer (some ⟨p, 0, none⟩), .pointer (some ⟨pd, 0, none⟩)] w fun e w' => (∃ j x', Hid ((oneofM x.d (stA ms i)).2 = stA ms j) ∧ Hid (x'.d = (oneofM x.d (stA ms i)).1) ∧ e = .returned (.tuple #[]) ∧ Hid (DI w0 b off cap ms p w base pd n w' j x')) ∨ (Fell (oneofM x.d (stA ms i)).2 e ∧ Keep (fun k => k ≠ p ∧ k < base) w w') := by
  have hpl : p < w.heap.size := h.pr.blk.lt
  have HI0 := hid h
  have HTT := hid htot
  have HML := hid hml
  clear h htot hml
  obtain ⟨xd, xf, xo, xdd, xr, xs⟩ := x
  dsimp only at *
  obtain ⟨oa, oc, rfl⟩ : ∃ oa oc, xo = .slice oa xd.oneofs.length oc := own_shape HI0.out.own.o
  obtain ⟨fa, fc, rfl⟩ : ∃ fa fc, xf = .slice fa xd.fields.length fc := own_shape HI0.out.own.f
  have HTO : Hid (xd.oneofs.length ≤ 300000) := hid (by have := HTT.out; unfold tot at this; omega)
  have HTF : Hid (xd.fields.length ≤ 300000) := hid (by have := HTT.out; unfold tot at this; omega)
  have hol : (xd.oneofs.length : Int) ≤ 9223372036854775807 := by have := HTO.out; omega
  have HX : Hid (oneofM xd (stA ms i) = ({ xd with oneofs := xd.oneofs ++ [⟨(onA (stA ms i)).1.s, atM (onA (stA ms i)).1⟩], fields := (onB (xd.oneofs.length : Int) xd.fields (stA ms i)).1 }, eatM (onB (xd.oneofs.length : Int) xd.fields (stA ms i)).2 [125])) := hid rfl
  have HXB : Hid (onB (xd.oneofs.length : Int) xd.fields (stA ms i) = oneL (xd.oneofs.length : Int) (oneSt (xd.oneofs.length : Int) (xd.fields, eatM (onA (stA ms i)).2 [123]))) := hid rfl
  have HXb : Hid (∀ S, (eatM (onA (stA ms i)).2 [123]) = S → S.cd ≠ 0 → (oneofM xd (stA ms i)).2 = S) := hid (fun S e h => by rw [HX.out]; simp only []; rw [HXB.out, e]; unfold oneSt; simp only [one_bad h]; rw [oneL_bad h]; simp only [eat_bad h])
  go_enter Tryz.func118, Tryz.ntmps118
  go_wp2_with fail
  refine (skipW w0 b off cap ms p _ i ⟨#[111, 110, 101, 111, 102]⟩ wOneof rfl plain_oneof HI0.out.pr).mono ?_
  rintro e w1 ⟨hK1, (⟨j1, ua, uc, he1, rfl, HR1⟩ | ⟨hcd, rfl⟩)⟩
  case inr =>
    have hk1 := hid (HI0.out.frame hK1)
    clear hK1
    go_wp2
    exact ⟨rfl, .inr ⟨by rw [HXb.out (eatM (stA ms i) wOneof) (by unfold onA; simp only [take_bad hcd, eat_bad hcd]) hcd]; exact ⟨hcd, rfl⟩, by have := hk1.out; exact kpBy⟩⟩
  have HI1 := hid (HI0.out.reader hK1 HR1.out)
  clear hK1 HR1
  go_wp2_with fail
  refine (takeW w0 b off cap ms p _ j1 1 (by decide) HI1.out.pr).mono ?_
  rintro e w2 ⟨hK2, (⟨j2, m1, sa, sc, he2, hm1, rfl, hr1, ho1, HR2⟩ | ⟨hcd, rfl⟩)⟩
  case inr =>
    have hk2 := hid (HI1.out.frame hK2)
    clear hK2
    go_wp2
    exact ⟨rfl, .inr ⟨by rw [HXb.out (takeM (stA ms j1) 1).2 (by unfold onA; rw [he1.out]; simp only [eat_bad hcd]) hcd]; exact ⟨hcd, rfl⟩, by have := hk2.out; exact kpBy⟩⟩
  have HI2 := hid (HI1.out.reader hK2 HR2.out)
  clear hK2 HR2
  have HOA : Hid (onA (stA ms i) = (m1, stA ms j2)) := hid (by unfold onA; rw [he1.out, hm1.out, ← he2.out])
  have xb2 := HI2.out.blk.cellF
  have yb2 := HI2.out.blk.frz
  have zb2 := HI2.out.blk.lt
  have hlo := HI0.out.lo
  have hup := HI0.out.up
  go_upto_region 3 with fail
  go_cut [] from 15 to 28 (fun wc => ∃ v, Hid (DI w0 b off cap ms p w base pd n wc j2 ⟨({ xd with oneofs := xd.oneofs ++ [(⟨m1.s, atM m1⟩ : MO)] } : MD), .slice fa xd.fields.length fc, v, xdd, xr, xs⟩))
  case first =>
    have Bm : Blk (w2.alloc (.cells #[.int .i64 m1.kind, .string (strOfNums m1.s), .int .u64 m1.n, .slice sa m1.b.length sc, .int .i64 m1.line, .int .i64 m1.col] 159)) w2.heap.size 159 #[.int .i64 m1.kind, .string (strOfNums m1.s), .int .u64 m1.n, .slice sa m1.b.length sc, .int .i64 m1.line, .int .i64 m1.col] := Blk.newAt rfl
    have HIm := hid (HI2.out.kept (below_alloc (.cells #[.int .i64 m1.kind, .string (strOfNums m1.s), .int .u64 m1.n, .slice sa m1.b.length sc, .int .i64 m1.line, .int .i64 m1.col] 159)))
    have zmm : w2.heap.size < (w2.alloc (.cells #[.int .i64 m1.kind, .string (strOfNums m1.s), .int .u64 m1.n, .slice sa m1.b.length sc, .int .i64 m1.line, .int .i64 m1.col] 159)).heap.size := by simp
    have zpm : pd < (w2.alloc (.cells #[.int .i64 m1.kind, .string (strOfNums m1.s), .int .u64 m1.n, .slice sa m1.b.length sc, .int .i64 m1.line, .int .i64 m1.col] 159)).heap.size := by simp; omega
    generalize w2.alloc (.cells #[.int .i64 m1.kind, .string (strOfNums m1.s), .int .u64 m1.n, .slice sa m1.b.length sc, .int .i64 m1.line, .int .i64 m1.col] 159) = wm at *
    have xm := Bm.cellF
    have xbm := HIm.out.blk.cellF
    have ybm := HIm.out.blk.frz
    go_region_law (first | (refine step_append_ran rfl _ _ 98 98 rfl rfl _ _ (.slice la (xd.oneofs.length + 1) lc) w4 rfl rfl HRUN.out ?_) | (go_simp; go_wp2_with (go_at_call 100; refine (placeOfW _ m1 sa sc).mono ?_; rintro e w3 ⟨rfl, hb3⟩; have Vm : Hid (Blk w3 w2.heap.size 159 #[.int .i64 m1.kind, .string (strOfNums m1.s), .int .u64 m1.n, .slice sa m1.b.length sc, .int .i64 m1.line, .int .i64 m1.col]) := hid (Blk.kept (Bm.kept (below_drew1 _)) hb3); have HI3 := hid ((HIm.out.kept (below_drew1 _)).kept hb3); have hs3 := hb3.size; (try simp at hs3); clear hb3; obtain ⟨la, lc, w4, hrun, hown, hgrow⟩ := appendO base (.slice oa xd.oneofs.length oc) xd.oneofs ⟨m1.s, atM m1⟩ w3 HI3.out.own.o HI3.out.base_le (by have := HTO.out; omega); have xm3 := Vm.out.cellF; have HRUN := hid hrun; have Gm := hid (grow_blk hgrow HI3.out.own.o Vm.out (by decide)); have HI4 := hid (HI3.out.addO hgrow hown); have xb3 := HI3.out.blk.cellF; have zb3 := HI3.out.blk.lt; have HB4 : Blk w4 pd 102 _ := (HI3.out.blk.keep (Keep.ofGrow (f := fun q => (Value.slice oa xd.oneofs.length oc).ownBlock ≠ some q) hgrow (fun _ hk => hk)) (fun hk => HI3.out.own.me pd (.inr (.inl hk)) rfl)); have xb4 := HB4.cellF; have yb4 := HB4.frz; clear hrun hown hgrow HB4)))
    all_goals (go_wp2_with fail; go_meet; exact ⟨_, HI4⟩)
  case rest =>
    obtain ⟨vo, HIc⟩ := hcut
    clear xb2 yb2 zb2 HI2 HI1 HI0
    go_wp2_with fail
    refine (skipW w0 b off cap ms p _ j2 ⟨#[123]⟩ [123] rfl plain_lc HIc.out.pr).mono ?_
    rintro e w3 ⟨hK3, (⟨j3, va, vc, he3, rfl, HR3⟩ | ⟨hcd, rfl⟩)⟩
    case inr =>
      have hk3 := hid (HIc.out.frame hK3)
      clear hK3
      go_wp2
      exact ⟨rfl, .inr ⟨by rw [HXb.out (eatM (stA ms j2) [123]) (by rw [HOA.out]) hcd]; exact ⟨hcd, rfl⟩, by have := hk3.out; exact kpBy⟩⟩
    have HI3 := hid (HIc.out.reader hK3 HR3.out)
    clear hK3 HR3 HIc
    have HON : Hid (onB (xd.oneofs.length : Int) xd.fields (stA ms i) = oneL (xd.oneofs.length : Int) (xd.fields ++ [(oneM (xd.oneofs.length : Int) (stA ms j3)).1], (oneM (xd.oneofs.length : Int) (stA ms j3)).2)) := hid (by rw [HXB.out, HOA.out]; simp only []; rw [he3.out]; rfl)
    have xb3 := HI3.out.blk.cellF
    have yb3 := HI3.out.blk.frz
    have zb3 := HI3.out.blk.lt
    go_upto_region 5 with fail
    go_cut [] from 31 to 42 (fun wc => ∃ j4 g v, Hid ((oneM (xd.oneofs.length : Int) (stA ms j3)).2 = stA ms j4) ∧ Hid (g = (oneM (xd.oneofs.length : Int) (stA ms j3)).1) ∧ Hid (DI w0 b off cap ms p w base pd n wc j4 ⟨{ ({ xd with oneofs := xd.oneofs ++ [(⟨m1.s, atM m1⟩ : MO)] } : MD) with fields := xd.fields ++ [g] }, v, vo, xdd, xr, xs⟩))
    case first =>
      go_region_law (first | (refine step_append_ran rfl _ _ 97 97 rfl rfl _ _ (.slice law4 (xd.fields.length + 1) lcw4) w5 rfl rfl HRUNw4.out ?_) | (go_simp; go_wp2_with (go_at_call 141; refine (oneW w0 b off cap ms p _ j3 (xd.oneofs.length : Int) HML.out (by have := HI3.out.pr; exact prBy)).mono ?_; rintro e w4 ⟨hKw4, (⟨jw4, yw4, hy1w4, hy2w4, rfl, HRw4⟩ | ⟨hcd, rfl⟩)⟩; rotate_left; (have hkw4 := hid (HI3.out.frame (show Keep (· ≠ p) _ w4 from ⟨hKw4.os, hKw4.tape, hKw4.output, hKw4.size, hKw4.block⟩)); exact ⟨rfl, .inr ⟨by rw [HX.out, HON.out, oneL_bad hcd]; simp only [eat_bad hcd]; exact ⟨hcd, rfl⟩, by have := hkw4.out; exact kpBy⟩⟩); have HIw4 : Hid (DI w0 b off cap ms p w base pd n w4 jw4 ⟨({ xd with oneofs := xd.oneofs ++ [(⟨m1.s, atM m1⟩ : MO)] } : MD), .slice fa xd.fields.length fc, vo, xdd, xr, xs⟩) := hid ((HI3.out.kept (by first | exact Below.refl _ _ | exact below_drew1 _)).reader hKw4 HRw4.out); have hsw4 := hKw4.size; (try simp at hsw4); clear hKw4; obtain ⟨law4, lcw4, w5, hrunw4, hownw4, hgroww4⟩ := appendF base (.slice fa xd.fields.length fc) xd.fields yw4 w4 HIw4.out.own.f HIw4.out.base_le (by have := HTF.out; omega); have HRUNw4 := hid hrunw4; have HIw5 := hid (HIw4.out.addF hgroww4 hownw4); have xbw4 := HIw4.out.blk.cellF; have zbw4 := HIw4.out.blk.lt; have HBw5 : Blk w5 pd 102 _ := (HIw4.out.blk.keep (Keep.ofGrow (f := fun q => (Value.slice fa xd.fields.length fc).ownBlock ≠ some q) hgroww4 (fun _ hk => hk)) (fun hk => HIw4.out.own.me pd (.inl hk) rfl)); have xbw5 := HBw5.cellF; have ybw5 := HBw5.frz; clear hrunw4 hownw4 hgroww4 HBw5)))
      all_goals (go_wp2_with fail; go_meet; exact ⟨jw4, yw4, _, hy1w4, hy2w4, HIw5⟩)
    case rest =>
      obtain ⟨j4, g, vf, he4, hg, HIc⟩ := hcut
      clear xb3 yb3 zb3 HI3
      have HTB : Hid ((xd.fields ++ [g]).length + 3 * muM (stA ms j4) ≤ 300000) := hid (by
        have h1 := HTT.out
        have h2 : muM (stA ms j4) < muM (stA ms j3) := by rw [← he4.out]; exact mu_one_lt rfl
        have h3 : muM (stA ms j3) ≤ muM (stA ms j2) := by rw [← he3.out]; exact mu_eat _ _
        have h4 : muM (stA ms j2) ≤ muM (stA ms j1) := by rw [← he2.out]; exact mu_take _ (by decide)
        have h5 : muM (stA ms j1) ≤ muM (stA ms i) := by rw [← he1.out]; exact mu_eat _ _
        unfold tot at h1
        simp
        omega)
      go_wp2
      go_loopw [] (fun wr => ∃ j l v, Hid (oneL (xd.oneofs.length : Int) (xd.fields ++ [g], stA ms j4) = oneL (xd.oneofs.length : Int) (l, stA ms j)) ∧ Hid (DI w0 b off cap ms p w base pd n wr j ⟨{ ({ xd with oneofs := xd.oneofs ++ [(⟨m1.s, atM m1⟩ : MO)] } : MD) with fields := l }, v, vo, xdd, xr, xs⟩) ∧ Hid (l.length + 3 * muM (stA ms j) ≤ 300000)) (fun wr => ms.length - ixW wr p)
      case atStart => exact ⟨j4, xd.fields ++ [g], vf, hid rfl, HIc, HTB⟩
      case round =>
        clear HIc HTB
        obtain ⟨j, l, v, hrl, HI, htb⟩ := hrel
        have hm0 := HI.out.pr.ix
        have HTL : Hid (l.length ≤ 300000) := hid (by have := htb.out; omega)
        obtain ⟨ga, gc, rfl⟩ : ∃ ga gc, v = .slice ga l.length gc := own_shape HI.out.own.f
        cases hi : isM (stA ms j) [125] with
        | false =>
          have HSG := hid (oneL_go (i := (xd.oneofs.length : Int)) (l := l) (s := stA ms j) rfl hi)
          go_wp2_with fail
          refine (isNextW w0 b off cap ms p _ j ⟨#[125]⟩ [125] rfl plain_rc HI.out.pr).mono ?_
          rintro e x1 ⟨rfl, hb1⟩
          rw [hi]
          have HI1 := hid (HI.out.kept hb1)
          clear hb1
          have hs2 := HI1.out.blk.lt
          have xb2 := HI1.out.blk.cellF
          have yb2 := HI1.out.blk.frz
          go_wp2_with fail
          go_region_law (first | (refine step_append_ran rfl _ _ 97 97 rfl rfl _ _ (.slice lax3 (l.length + 1) lcx3) x4 rfl rfl HRUNx3.out ?_) | (go_simp; go_wp2_with (go_at_call 141; refine (oneW w0 b off cap ms p _ j (xd.oneofs.length : Int) HML.out (by have := HI1.out.pr; exact prBy)).mono ?_; rintro e x3 ⟨hKx3, (⟨jx3, yx3, hy1x3, hy2x3, rfl, HRx3⟩ | ⟨hcd, rfl⟩)⟩; rotate_left; (have hkx3 := hid (HI1.out.frame (show Keep (· ≠ p) _ x3 from ⟨hKx3.os, hKx3.tape, hKx3.output, hKx3.size, hKx3.block⟩)); exact ⟨rfl, .inr ⟨by rw [HX.out, HON.out, ← hg.out, he4.out, hrl.out, HSG.out, oneL_bad hcd]; simp only [eat_bad hcd]; exact ⟨hcd, rfl⟩, by have := hkx3.out; exact kpBy⟩⟩); have HIx3 : Hid (DI w0 b off cap ms p w base pd n x3 jx3 ⟨{ ({ xd with oneofs := xd.oneofs ++ [(⟨m1.s, atM m1⟩ : MO)] } : MD) with fields := l }, .slice ga l.length gc, vo, xdd, xr, xs⟩) := hid ((HI1.out.kept (by first | exact Below.refl _ _ | exact below_drew1 _)).reader hKx3 HRx3.out); have hsx3 := hKx3.size; (try simp at hsx3); clear hKx3; obtain ⟨lax3, lcx3, x4, hrunx3, hownx3, hgrowx3⟩ := appendF base (.slice ga l.length gc) l yx3 x3 HIx3.out.own.f HIx3.out.base_le (by have := HTL.out; omega); have HRUNx3 := hid hrunx3; have HIx4 := hid (HIx3.out.addF hgrowx3 hownx3); have xbx3 := HIx3.out.blk.cellF; have zbx3 := HIx3.out.blk.lt; have HBx4 : Blk x4 pd 102 _ := (HIx3.out.blk.keep (Keep.ofGrow (f := fun q => (Value.slice ga l.length gc).ownBlock ≠ some q) hgrowx3 (fun _ hk => hk)) (fun hk => HIx3.out.own.me pd (.inl hk) rfl)); have xbx4 := HBx4.cellF; have ybx4 := HBx4.frz; clear hrunx3 hownx3 hgrowx3 HBx4)))
          all_goals (go_wp2; exact ⟨⟨jx3, l ++ [yx3], _, hid (by rw [hrl.out, HSG.out, ← hy2x3.out, hy1x3.out]), HIx4, hid (by
            have h1 := htb.out
            have h2 : muM (stA ms jx3) < muM (stA ms j) := by rw [← hy1x3.out]; exact mu_one_lt rfl
            simp
            omega)⟩, by
            have h2 : muM (stA ms jx3) < muM (stA ms j) := by rw [← hy1x3.out]; exact mu_one_lt rfl
            have h4 := stA_mu HI.out.pr.lt HIx4.out.pr.lt h2
            have h5 := HIx4.out.pr.lt
            rw [hm0, HIx4.out.pr.ix]
            omega⟩)
        | true =>
          have HSG := hid (oneL_stop (i := (xd.oneofs.length : Int)) (l := l) hi)
          go_wp2_with fail
          refine (isNextW w0 b off cap ms p _ j ⟨#[125]⟩ [125] rfl plain_rc HI.out.pr).mono ?_
          rintro e x1 ⟨rfl, hb1⟩
          rw [hi]
          have HI1 := hid (HI.out.kept hb1)
          clear hb1
          go_wp2_with fail
          refine (skipW w0 b off cap ms p _ j ⟨#[125]⟩ [125] rfl plain_rc HI1.out.pr).mono ?_
          rintro e x2 ⟨hK2, (⟨k2, ta, tc, hf2, rfl, HR2⟩ | ⟨hcd, rfl⟩)⟩
          case inr =>
            have hk2 := hid (HI1.out.frame hK2)
            clear hK2
            go_wp2
            exact ⟨rfl, .inr ⟨by rw [HX.out, HON.out, ← hg.out, he4.out, hrl.out, HSG.out]; exact ⟨hcd, rfl⟩, by have := hk2.out; exact kpBy⟩⟩
          have HI2 := hid (HI1.out.reader hK2 HR2.out)
          clear hK2
          go_wp2
          go_end0
          exact .inl ⟨k2, ⟨{ ({ xd with oneofs := xd.oneofs ++ [(⟨m1.s, atM m1⟩ : MO)] } : MD) with fields := l }, .slice ga l.length gc, vo, xdd, xr, xs⟩, hid (by rw [HX.out, HON.out, ← hg.out, he4.out, hrl.out, HSG.out]; exact hf2.out), hid (by rw [HX.out, HON.out, ← hg.out, he4.out, hrl.out, HSG.out, HOA.out]), rfl, HI2⟩
end
set_option maxHeartbeats 4000000
theorem assertYes (t : TypeId) (v : Value) (W : World) : (Instr.typeAssert (.iface 28 v) t 28 true).run Tryz.prog W = .ok (.tuple #[v, .bool true]) W := by
  simp [Instr.typeAssert, run_underlying Tryz.underlying28]
theorem assertNo (t : TypeId) (W : World) : (Instr.typeAssert .nilIface t 28 true).run Tryz.prog W = .ok (.tuple #[.agg #[.int .i64 0, .int .i64 0, .int .i64 0, .int .i64 0], .bool false]) W := by
  simp [Instr.typeAssert, run_underlying Tryz.underlying28, Tryz.zeroValue28]
theorem catchP (q1 q2 : Nat) (cd ln cl : Int) (a0 a1 b0 b1 b2 b3 : Value) (older : List PanicEntry) (w : World) (h1 : Blk w q1 25 #[a0, a1]) (h2 : Blk w q2 28 #[b0, b1, b2, b3]) (hne : q1 ≠ q2) :
    CallsD Tryz.prog 36 #[.pointer (some ⟨q1, 0, none⟩), .pointer (some ⟨q2, 0, none⟩)] (.panicking ({ v := .iface 28 (.agg #[.int .i64 cd, .int .i64 0, .int .i64 ln, .int .i64 cl]), recovered := false } :: older)) w fun e u' w' =>
      e = .returned (.tuple #[]) ∧ u' = .panicking ({ v := .iface 28 (.agg #[.int .i64 cd, .int .i64 0, .int .i64 ln, .int .i64 cl]), recovered := true } :: older) ∧ Blk w' q1 25 #[.slice none 0 0, .slice none 0 0] ∧ Blk w' q2 28 #[.int .i64 cd, .int .i64 0, .int .i64 ln, .int .i64 cl] ∧ Keep (fun k => k ≠ q1 ∧ k ≠ q2) w w' := by
  have x1 := h1.cellF
  have y1 := h1.frz
  have x2 := h2.cellF
  have y2 := h2.frz
  have z1 := h1.lt
  have z2 := h2.lt
  refine callsD_of_wpS Tryz.func36 rfl fun c₀ cs hu => ?_
  apply wpS_seq
  apply wpS_region
  have hact : (#[Value.pointer (some ⟨q1, 0, none⟩), Value.pointer (some ⟨q2, 0, none⟩)] ++ Array.replicate (Tryz.f36.ntmps - (#[Value.pointer (some ⟨q1, 0, none⟩), Value.pointer (some ⟨q2, 0, none⟩)] : Array Value).size) undef : Array Value) = #[.pointer (some ⟨q1, 0, none⟩), .pointer (some ⟨q2, 0, none⟩), undef, undef, undef, undef, undef, undef, undef, undef, undef, undef] := by
    rw [Tryz.ntmps36]
    rfl
  rw [hact]
  clear hact
  rw [show List.range _ = [0, 1, 2, 3, 4, 5, 6, 7] from rfl]
  have hrec : recoverD (c₀ :: cs) = some (.iface 28 (.agg #[.int .i64 cd, .int .i64 0, .int .i64 ln, .int .i64 cl]), { c₀ with mode := .panicking ({ v := .iface 28 (.agg #[.int .i64 cd, .int .i64 0, .int .i64 ln, .int .i64 cl]), recovered := true } :: older) } :: cs) := by
    simp [recoverD, hu]
  unfold wpOpsS
  simp only [List.getElem?_toArray, List.getElem?_cons_zero, List.getElem?_cons_succ]
  rw [if_pos (by simp [Region.wanted]), show (execOp _ _).run Tryz.prog w = .ok .recover w by simp [execOp, resolve, invoke, builtin]]
  simp only []
  rw [hrec]
  simp only [Act.put, List.setIfInBounds_toArray, List.set_cons_zero, List.set_cons_succ]
  unfold wpOpsS
  simp only [List.getElem?_toArray, List.getElem?_cons_zero, List.getElem?_cons_succ]
  rw [if_pos (by simp [Region.wanted]), show (execOp _ _).run Tryz.prog (w) = .ok (.value (.tuple #[.agg #[.int .i64 cd, .int .i64 0, .int .i64 ln, .int .i64 cl], .bool true])) (w) by simp [execOp, Act.eval, assertYes]]
  simp only [Oper.upon]
  simp only [Act.put, List.setIfInBounds_toArray, List.set_cons_zero, List.set_cons_succ]
  unfold wpOpsS
  simp only [List.getElem?_toArray, List.getElem?_cons_zero, List.getElem?_cons_succ]
  rw [if_pos (by simp [Region.wanted]), show (execOp _ _).run Tryz.prog (w) = .ok (.value (.tuple #[.agg #[.int .i64 cd, .int .i64 0, .int .i64 ln, .int .i64 cl], .bool true])) (w) by simp [execOp, Act.eval]]
  simp only [Oper.upon]
  simp only [Act.put, List.setIfInBounds_toArray, List.set_cons_zero, List.set_cons_succ]
  unfold wpOpsS
  simp only [List.getElem?_toArray, List.getElem?_cons_zero, List.getElem?_cons_succ]
  rw [if_pos (by simp [Region.wanted]), show (execOp _ _).run Tryz.prog (w) = .ok (.value (.agg #[.int .i64 cd, .int .i64 0, .int .i64 ln, .int .i64 cl])) (w) by simp [execOp, Act.eval, go_sem]]
  simp only [Oper.upon]
  simp only [Act.put, List.setIfInBounds_toArray, List.set_cons_zero, List.set_cons_succ]
  unfold wpOpsS
  simp only [List.getElem?_toArray, List.getElem?_cons_zero, List.getElem?_cons_succ]
  rw [if_pos (by simp [Region.wanted]), show (execOp _ _).run Tryz.prog (w) = .ok (.value (.bool true)) (w) by simp [execOp, Act.eval, go_sem]]
  simp only [Oper.upon]
  simp only [Act.put, List.setIfInBounds_toArray, List.set_cons_zero, List.set_cons_succ]
  unfold wpOpsS
  simp only [List.getElem?_toArray, List.getElem?_cons_zero, List.getElem?_cons_succ]
  rw [if_pos (by simp [Region.wanted]), show (execOp _ _).run Tryz.prog (w) = .ok (.value (.pointer (some ⟨w.heap.size, 0, none⟩))) ((w.alloc (.cells #[.int .i64 0, .int .i64 0, .int .i64 0, .int .i64 0] 28))) by simp [execOp, Act.eval, go_sem]]
  simp only [Oper.upon]
  simp only [Act.put, List.setIfInBounds_toArray, List.set_cons_zero, List.set_cons_succ]
  unfold wpOpsS
  simp only [List.getElem?_toArray, List.getElem?_cons_zero, List.getElem?_cons_succ]
  rw [if_pos (by simp [Region.wanted]), show (execOp _ _).run Tryz.prog ((w.alloc (.cells #[.int .i64 0, .int .i64 0, .int .i64 0, .int .i64 0] 28))) = .ok .skip ((w.alloc (.cells #[.int .i64 cd, .int .i64 0, .int .i64 ln, .int .i64 cl] 28))) by simp [execOp, Act.eval, go_sem]]
  simp only [Oper.upon]
  simp only [Act.put, List.setIfInBounds_toArray, List.set_cons_zero, List.set_cons_succ]
  unfold wpOpsS
  simp only [List.getElem?_toArray, List.getElem?_cons_zero, List.getElem?_cons_succ]
  rw [if_pos (by simp [Region.wanted]), show (execOp _ _).run Tryz.prog ((w.alloc (.cells #[.int .i64 cd, .int .i64 0, .int .i64 ln, .int .i64 cl] 28))) = .ok (.value (.bool true)) ((w.alloc (.cells #[.int .i64 cd, .int .i64 0, .int .i64 ln, .int .i64 cl] 28))) by simp [execOp, Act.eval, go_sem]]
  simp only [Oper.upon]
  simp only [Act.put, List.setIfInBounds_toArray, List.set_cons_zero, List.set_cons_succ]
  unfold wpOpsS
  simp only [Exit.thenS]
  apply wpS_seq
  refine wpS_of_wp ?_
  go_wp2
  simp only [Exit.thenS]
  refine wpS_cond (t := true) (by simp [Act.eval]) ?_
  simp only [if_true]
  refine wpS_of_wp ?_
  go_region
  all_goals refine ⟨rfl, _, rfl, .tuple #[], by simp [results, Tryz.results36], rfl, rfl, ?_, ?_, ?_⟩
  · exact ((((((((h1.set 0 _).set 1 _).other hne _).other hne _).other hne _).other hne _).kept (below_alloc _)).kept (below_drew1 _)).is (by simp)
  · exact ((((((((h2.other (Ne.symm hne) _).other (Ne.symm hne) _).set 0 _).set 1 _).set 2 _).set 3 _).kept (below_alloc _)).kept (below_drew1 _)).is (by simp)
  · exact kp_drew (kp_alloc (kp_set (kp_set (kp_set (kp_set (kp_set (kp_set (Keep.refl _ _) (.inl (by simp)) _) (.inl (by simp)) _) (.inl (by simp)) _) (.inl (by simp)) _) (.inl (by simp)) _) (.inl (by simp)) _) _)
/-- Nothing was thrown. -/
theorem catchIdle (q1 q2 : Nat) (w : World) :
    CallsD Tryz.prog 36 #[.pointer (some ⟨q1, 0, none⟩), .pointer (some ⟨q2, 0, none⟩)] .returning w fun e u' w' => e = .returned (.tuple #[]) ∧ u' = .returning ∧ Below w.heap.size w w' := by
  refine callsD_of_wpS Tryz.func36 rfl fun c₀ cs hu => ?_
  apply wpS_seq
  apply wpS_region
  have hact : (#[Value.pointer (some ⟨q1, 0, none⟩), Value.pointer (some ⟨q2, 0, none⟩)] ++ Array.replicate (Tryz.f36.ntmps - (#[Value.pointer (some ⟨q1, 0, none⟩), Value.pointer (some ⟨q2, 0, none⟩)] : Array Value).size) undef : Array Value) = #[.pointer (some ⟨q1, 0, none⟩), .pointer (some ⟨q2, 0, none⟩), undef, undef, undef, undef, undef, undef, undef, undef, undef, undef] := by
    rw [Tryz.ntmps36]
    rfl
  rw [hact]
  clear hact
  rw [show List.range _ = [0, 1, 2, 3, 4, 5, 6, 7] from rfl]
  have hrec : recoverD (c₀ :: cs) = none := by
    simp [recoverD, hu]
  unfold wpOpsS
  simp only [List.getElem?_toArray, List.getElem?_cons_zero, List.getElem?_cons_succ]
  rw [if_pos (by simp [Region.wanted]), show (execOp _ _).run Tryz.prog w = .ok .recover w by simp [execOp, resolve, invoke, builtin]]
  simp only []
  rw [hrec]
  simp only [Act.put, List.setIfInBounds_toArray, List.set_cons_zero, List.set_cons_succ]
  unfold wpOpsS
  simp only [List.getElem?_toArray, List.getElem?_cons_zero, List.getElem?_cons_succ]
  rw [if_pos (by simp [Region.wanted]), show (execOp _ _).run Tryz.prog (w) = .ok (.value (.tuple #[.agg #[.int .i64 0, .int .i64 0, .int .i64 0, .int .i64 0], .bool false])) (w) by simp [execOp, Act.eval, assertNo]]
  simp only [Oper.upon]
  simp only [Act.put, List.setIfInBounds_toArray, List.set_cons_zero, List.set_cons_succ]
  unfold wpOpsS
  simp only [List.getElem?_toArray, List.getElem?_cons_zero, List.getElem?_cons_succ]
  rw [if_pos (by simp [Region.wanted]), show (execOp _ _).run Tryz.prog (w) = .ok (.value (.tuple #[.agg #[.int .i64 0, .int .i64 0, .int .i64 0, .int .i64 0], .bool false])) (w) by simp [execOp, Act.eval]]
  simp only [Oper.upon]
  simp only [Act.put, List.setIfInBounds_toArray, List.set_cons_zero, List.set_cons_succ]
  unfold wpOpsS
  simp only [List.getElem?_toArray, List.getElem?_cons_zero, List.getElem?_cons_succ]
  rw [if_pos (by simp [Region.wanted]), show (execOp _ _).run Tryz.prog (w) = .ok (.value (.agg #[.int .i64 0, .int .i64 0, .int .i64 0, .int .i64 0])) (w) by simp [execOp, Act.eval, go_sem]]
  simp only [Oper.upon]
  simp only [Act.put, List.setIfInBounds_toArray, List.set_cons_zero, List.set_cons_succ]
  unfold wpOpsS
  simp only [List.getElem?_toArray, List.getElem?_cons_zero, List.getElem?_cons_succ]
  rw [if_pos (by simp [Region.wanted]), show (execOp _ _).run Tryz.prog (w) = .ok (.value (.bool false)) (w) by simp [execOp, Act.eval, go_sem]]
  simp only [Oper.upon]
  simp only [Act.put, List.setIfInBounds_toArray, List.set_cons_zero, List.set_cons_succ]
  unfold wpOpsS
  simp only [List.getElem?_toArray, List.getElem?_cons_zero, List.getElem?_cons_succ]
  rw [if_pos (by simp [Region.wanted]), show (execOp _ _).run Tryz.prog (w) = .ok (.value (.pointer (some ⟨w.heap.size, 0, none⟩))) ((w.alloc (.cells #[.int .i64 0, .int .i64 0, .int .i64 0, .int .i64 0] 28))) by simp [execOp, Act.eval, go_sem]]
  simp only [Oper.upon]
  simp only [Act.put, List.setIfInBounds_toArray, List.set_cons_zero, List.set_cons_succ]
  unfold wpOpsS
  simp only [List.getElem?_toArray, List.getElem?_cons_zero, List.getElem?_cons_succ]
  rw [if_pos (by simp [Region.wanted]), show (execOp _ _).run Tryz.prog ((w.alloc (.cells #[.int .i64 0, .int .i64 0, .int .i64 0, .int .i64 0] 28))) = .ok .skip ((w.alloc (.cells #[.int .i64 0, .int .i64 0, .int .i64 0, .int .i64 0] 28))) by simp [execOp, Act.eval, go_sem]]
  simp only [Oper.upon]
  simp only [Act.put, List.setIfInBounds_toArray, List.set_cons_zero, List.set_cons_succ]
  unfold wpOpsS
  simp only [List.getElem?_toArray, List.getElem?_cons_zero, List.getElem?_cons_succ]
  rw [if_pos (by simp [Region.wanted]), show (execOp _ _).run Tryz.prog ((w.alloc (.cells #[.int .i64 0, .int .i64 0, .int .i64 0, .int .i64 0] 28))) = .ok (.value (.bool false)) ((w.alloc (.cells #[.int .i64 0, .int .i64 0, .int .i64 0, .int .i64 0] 28))) by simp [execOp, Act.eval, go_sem]]
  simp only [Oper.upon]
  simp only [Act.put, List.setIfInBounds_toArray, List.set_cons_zero, List.set_cons_succ]
  unfold wpOpsS
  simp only [Exit.thenS]
  apply wpS_seq
  refine wpS_of_wp ?_
  go_wp2
  simp only [Exit.thenS]
  refine wpS_cond (t := false) (by simp [Act.eval]) ?_
  simp only [Bool.false_eq_true, if_false]
  refine wpS_of_wp (wp_skip ?_)
  cases c₀
  exact ⟨rfl, .returning, by simp_all, .tuple #[], by simp [results, Tryz.results36], rfl, rfl, below_alloc _⟩
end Go.Proofs.YtidimdbnnnpplaaGreatDoor
