/-
  code: CodeKept: what was handed in stays, what is told is new.
  What comes in, opened: strings; and what the bound on it says.
  A table that comes in, opened.
  A table that comes in, opened: fields, symbols, ranges, types.
  A program that comes in, opened: it has no more than came in.
  What comes in, opened: bytes, strings; and what the bound on it says.
  The variables of Go's library that the rows list: a world that lays them.
-/
import Derived.Test.YtpndejibjiojbaaDoorCC24
import Derived.Test.YtpndejibjiojbaaDoorCKC
import Derived.ProofKit
import Derived.OpenShut
import Derived.ShutString
import Derived.Lib.SmallJoins
import Derived.Deep.Slices
import Derived.Deep.Fields
import Derived.Test.YtpndejibjiojbaaDoorCw8G
import Derived.Test.YtpndejibjiojbaaDoorRows
import Derived.Stop.LaidErr
import Derived.Lib.LaidTab
import Derived.Deep.DeepHandedRow
import Derived.Deep.DeepWitnessRowRef
import Derived.LaidLaws
namespace Go.Proofs.YtpndejibjiojbaaDoor
open Go.RowKit
set_option maxRecDepth 1000000
set_option linter.unusedVariables false
set_option linter.unusedSimpArgs false
set_option maxHeartbeats 2000000
theorem pgB_len : ∀ bs : List BV, (pgB bs).length ≤ pgN bs := by
  have key : ∀ bs : List BV, (bs.flatMap (fun x => bkB x.k)).length + 12 ≤ pgN bs := by
    intro bs
    induction bs with
    | nil => exact Nat.le_refl _
    | cons x l ih =>
      have := bkB_len x.k
      rw [List.flatMap_cons, List.length_append, pgN]
      omega
  intro bs
  have h1 := key bs
  have h2 := nvB_len [(bs.length : Int)]
  unfold pgB
  rw [List.length_append, List.length_append]
  simp only [List.length_cons, List.length_nil] at h2 ⊢
  omega
theorem byB_facts {bs : List BV} (hl : pgN bs ≤ 140737488355000) : (byB (bs.map BV.k)).length ≤ 140737488355000 ∧ ∀ x ∈ byB (bs.map BV.k), 0 ≤ x ∧ x ≤ 255 := by
  unfold byB
  split
  · rename_i hv
    rw [← pkB_pg]
    exact ⟨Nat.le_trans (pgB_len bs) hl, pgB_bd (valid_BkW ((vdB_iff rfl).1 hv) (pgN_hz (by omega))) (by omega)⟩
  · exact ⟨Nat.zero_le _, fun x hx => by cases hx⟩
theorem rdK_len {xs : List Int} (hx : xs.length ≤ 4000000) {bs : List BV} (h : bs.map BV.k = rdK xs) : (∀ x ∈ bs, x.k.dec.length ≤ 4000000 ∧ x.k.enc.length ≤ 4000000) := by
  intro x hb
  have hm : x.k ∈ rdK xs := by rw [← h]; exact List.mem_map_of_mem hb
  unfold rdK at hm
  split at hm
  · have h1 := piM_pgN xs _ (keyV_map (piM xs).1)
    have h2 := pgN_mem _ (keyV x.k) (List.mem_map_of_mem hm)
    have h3 : bkN x.k ≤ 12 + 41 * xs.length := Nat.le_trans h2 h1
    unfold bkN at h3
    omega
  · cases hm
theorem cell_keep16 {w w' : World} {f : Nat → Prop} {a : Addr} {v : Value} (h : w.cell? a = some v) (k : Keep f w w') (hf : f a.block) : w'.cell? a = some v := by
  have hlt : a.block < w.heap.size := World.block_lt_of_cell? _ _ h
  have := k.block a.block hlt hf
  unfold World.cell? at h ⊢
  rw [this]
  exact h
theorem grow_blkQ {w w' : World} {base : Nat} {v v' : Value} {n : Nat} {fl : List Value} (g : Grow w w' v v') (h : w.ownsRow base 37 5 v n fl) {q : Nat} {t : TypeId} {cs : Array Value} (hB : Blk w q t cs) (ht : t ≠ 37) : Blk w' q t cs := (g.block q hB.lt (fun hk => by
  obtain ⟨_, _, cur, h3⟩ := own_type h hk
  rw [show w.heap[q]? = _ from hB] at h3
  cases h3
  exact ht rfl)).trans hB
theorem codeKeptW (w : World) (bs : List BV) (pa : Option Addr) (pc : Nat) (hp : PgR w (.slice pa bs.length pc) bs) (hl : pgN bs ≤ 140737488355000) (hI : ∀ x ∈ bs, IK x.k) (ba : Option Addr) (bn bc : Nat) (xs : List Int) (hrb : W.Reads w ba bn bc xs) (hbb : ∀ x, ba = some x → x.block < w.heap.size) (hx : xs.length ≤ 4000000) : Calls Tryd.prog 3 #[.agg #[.slice pa bs.length pc], .slice ba bn bc] w fun e w' => e = .returned (.bool true) ∧ Below w.heap.size w w' := by
  have HBY := hid fun W0 (hW : Below w.heap.size w W0) => bytesK W0 bs pa pc (hp.kept hW) (by omega) hI
  have HRK := hid fun W0 (hW : Below w.heap.size w W0) => readK W0 ba bn bc xs (W.reads_kept hrb hW) (fun x q => Nat.lt_of_lt_of_le (hbb x q) hW.size) hx
  have HRC := hid fun (W0 : World) (g c : Nat) (hr : W.Reads W0 (some ⟨g, 0, none⟩) bn c xs) (hg : g < W0.heap.size) => readK W0 (some ⟨g, 0, none⟩) bn c xs hr (fun x q => by cases q; exact hg) hx
  have HYF := hid (byB_facts hl)
  have HKF := hid fun (cs : List BV) (h : cs.map BV.k = rdK xs) => rdK_len hx h
  have HRB := hid hrb
  have HX := hid hx
  have hln := hrb.length
  have bn63 : (bn : Int) ≤ 4000000 := by omega
  generalize bs.length = n0 at *
  generalize byB (bs.map BV.k) = Y at *
  generalize byE (bs.map BV.k) = E at *
  generalize rdK xs = KS at *
  generalize rdE xs = ER at *
  clear hp hl hI hrb hbb hx
  replace hln := hid hln
  go_enter Tryd.func3, Tryd.ntmps3
  go_wp2_with fail
  refine (awakeP _).mono ?_
  rintro e w1 ⟨rfl, hb1⟩
  have Bp : Blk w1 w.heap.size 24 #[.slice pa n0 pc] := (Blk.new _ _ _).kept hb1
  replace hb1 : Hid (Below w.heap.size w w1) := hid (bl_then (by exact blBy) hb1)
  obtain ⟨v3, w3, g, c, w4, R3, R4, hc1, hc2, HX4, HX2, HB4, hglt⟩ := copy201 w1 ba bn bc xs (W.reads_kept HRB.out hb1.out) HX.out
  have BP4 := hid (Bp.kept HB4.out)
  have zp1 : Hid (w.heap.size < w1.heap.size) := hid Bp.lt
  have HB4w : Hid (Below w.heap.size w w4) := hid (bl_then hb1.out HB4.out)
  clear Bp hb1
  have xp := BP4.out.cellF
  have zp := BP4.out.lt
  go_wp2_with (first
    | (at_builtin; refine wpList_append_ran rfl _ _ 25 25 rfl rfl (.slice (some ⟨w1.heap.size, 0, none⟩) 0 0) (.slice ba bn bc) v3 w3 rfl rfl R3.out ?_)
    | (at_builtin; refine wpList_append_ran rfl _ _ 25 25 rfl rfl v3 (.slice (some ⟨w3.heap.size, 0, none⟩) 1 1) _ w4 rfl rfl R4.out ?_)
    | fail)
  refine (HBY.out _ HB4w.out).mono ?_
  rintro e w5 ⟨xv, rfl, hox, hb5⟩
  obtain ⟨xa, xc, rfl⟩ := hox.slice
  have HOX := hid hox
  have HB5 := hid hb5
  have BP5 := hid (BP4.out.kept hb5)
  have HB5w : Hid (Below w.heap.size w w5) := hid (bl_then HB4w.out hb5)
  clear R3 R4 hox hb5 xp zp
  have xp := BP5.out.cellF
  have zp := BP5.out.lt
  go_wp2_with fail
  refine (HBY.out _ HB5w.out).mono ?_
  rintro e w6 ⟨yv, rfl, hoy, hb6⟩
  obtain ⟨ya, yc, rfl⟩ := hoy.slice
  have HOY := hid hoy
  have HOX6 := hid (HOX.out.kept hb6)
  have BP6 := hid (BP5.out.kept hb6)
  have HB6w : Hid (Below w.heap.size w w6) := hid (bl_then HB5w.out hb6)
  have HX6 := hid (W.reads_kept (W.reads_kept HX4.out HB5.out) hb6)
  have HC6 := hid (cell_below (cell_below HX2.out HB5.out) hb6)
  have hs5 := HB5.out.size
  have hs6 := hb6.size
  have hs1 : w1.heap.size ≤ w4.heap.size := HB4.out.size
  have hs0 := zp1.out
  have LX := hid (fun k hk => own_type HOX.out (k := k) hk)
  have LY := hid (fun k hk => own_type HOY.out (k := k) hk)
  clear hoy hb6 xp zp HX4 HX2 HOX BP5 BP4 HB5 HB4 HB5w HB4w
  have y63 : (Y.length : Int) ≤ 140737488355000 := by have := HYF.out.1; omega
  have HYB := hid HYF.out.2
  generalize hYn : Y.length = yn at *
  replace hYn := hid hYn
  go_wp2_with fail
  go_loopw [10] (fun r wr => ∃ (i : Nat) (ys : List Value), i ≤ yn ∧ r = .int .i64 i ∧ Hid (wr.ownsRow w4.heap.size 5 1 (.slice xa yn xc) yn ys) ∧ Hid (Keep (fun k => k < w4.heap.size ∨ w5.heap.size ≤ k) w6 wr)) (fun r wr => yn - numAt wr r)
  case atStart => exact ⟨0, _, by omega, rfl, hid (by have h := HOX6.out; unfold OwnB at h; rw [hYn.out] at h; exact h), hid (Keep.refl _ _)⟩
  case round =>
    obtain ⟨i, ys, hi, rfl, HO, HKP⟩ := hrel
    by_cases hlt : i < yn
    · have h2 : (i : Int) < (yn : Int) := by omega
      rcases HO.out.2 with ⟨e1, e2⟩ | ⟨gb, gcap, cur, hv, hbg, hg, hnc, hcm, hcs, htake⟩
      · omega
      · simp only [Value.slice.injEq, true_and] at hv
        obtain ⟨rfl, rfl⟩ := hv
        have hyl : i < ys.length := by have := HO.out.1; omega
        have hcA : wr.cell? ⟨gb, i, none⟩ = some ys[i] := (HO.out.cellAt i (by omega)).trans (List.getElem?_eq_getElem hyl)
        have hfA := HO.out.frozenAt i
        have HST := hid (HO.out.stored i (.int .u8 99)).1
        have HKP2 := hid (HKP.out.trans (Keep.setCell wr ⟨gb, i, none⟩ (.int .u8 99) (by
          have h1 := LX.out gb rfl
          show ¬ (gb < w4.heap.size ∨ w5.heap.size ≤ gb)
          omega)))
        clear hbg hg hnc hcm hcs htake
        go_wp2
        exact ⟨⟨i + 1, _, by omega, rfl, HST, HKP2⟩, by simp [numAt]; omega⟩
    · have h2 : ¬ (i : Int) < (yn : Int) := by omega
      have hs6r := HKP.out.size
      obtain ⟨v9, w9, R9, G9⟩ : ∃ v9 w9, Hid ((Builtin.append_ #[25, 25] 25 #[.slice xa yn xc, .slice (some ⟨wr.heap.size, 0, none⟩) 2 2]).run Tryd.prog (wr.alloc (.cells #[.int .u8 98, .int .u8 97] 5)) = .ok v9 w9) ∧ Hid (Grow wr w9 (.slice xa yn xc) v9) := by
        obtain ⟨v', w', h1, h3, h4⟩ := W.append_bytes w4.heap.size (.slice xa yn xc) yn ys (wr.alloc (.cells #[.int .u8 98, .int .u8 97] 5)) (some ⟨wr.heap.size, 0, none⟩) 2 2 [98, 97] (own_kept HO.out (below_alloc _)) (by simp; omega) (twoReads (Blk.new _ _ _) (by decide) (by decide)) (by omega)
        exact ⟨v', w', hid h1, hid ((Grow.ofBelow (below_alloc _)).trans (growW h4))⟩
      have HKP2 := hid (HKP.out.trans (Keep.ofGrow G9.out (fun k hk e => by
        have h1 := LX.out k e
        omega)))
      have HB9w : Hid (Below w.heap.size w w9) := hid (HB6w.out.trans (HKP2.out.below (B := w.heap.size) (by omega) (fun k hk => .inl (by omega))))
      have HX9 : Hid (W.Reads w9 (some ⟨g, 0, none⟩) bn c xs) := hid ⟨HX6.out.length, HX6.out.le, HX6.out.max, HX6.out.bd, by
        rcases HX6.out.cells with h | ⟨b, off, e, h⟩
        · exact .inl h
        · cases e
          exact .inr ⟨g, 0, rfl, fun i hi => cell_keep16 (h i hi) HKP2.out (.inl hglt)⟩⟩
      have HC9 : Hid (w9.cell? ⟨g, bn, none⟩ = some (.int .u8 201)) := hid (cell_keep16 HC6.out HKP2.out (.inl hglt))
      have HOY9 := hid (own_keep (f := fun k => k < w4.heap.size ∨ w5.heap.size ≤ k) HOY.out (fun k hk => .inr (LY.out k hk).1) HKP2.out)
      have BP9 := hid (BP6.out.keep HKP2.out (.inl (by omega)))
      have hs9 := HKP2.out.size
      clear HKP HO HKP2 G9 HX6 HC6 HOX6 HOY BP6 HB6w LX
      go_wp2_with (first
        | (at_builtin; refine wpList_append_ran rfl _ _ 25 25 rfl rfl (.slice xa yn xc) (.slice (some ⟨wr.heap.size, 0, none⟩) 2 2) v9 w9 rfl rfl R9.out ?_)
        | fail)
      clear R9
      refine (HRC.out w9 g c HX9.out (by omega)).mono ?_
      rintro e w10 ⟨qa, qc, qs, rfl, hmq, hoq, hb10, hapq⟩
      have HMQ := hid hmq
      have HOQ := hid hoq
      have HAQ := hid hapq
      have HB10 := hid (bl_alloc hb10 (.cells #[.slice qa qs.length qc] 24))
      have HQS := hid (QS.of hoq hapq)
      have HX10 := hid (W.reads_kept HX9.out HB10.out)
      have hb10' : Hid (w9.heap.size ≤ w10.heap.size) := hid hb10.size
      clear hmq hoq hapq hb10
      go_wp2_with fail
      refine (HRC.out _ g c HX10.out (by have := HB10.out.size; omega)).mono ?_
      rintro e w11 ⟨ra, rc, rs, rfl, hmr, hor, hb11, -⟩
      have HMR := hid hmr
      have HBV : Hid (Below w9.heap.size w9 (w11.alloc (.cells #[.slice ra rs.length rc] 24))) := hid (bl_alloc (bl_then HB10.out hb11) _)
      have HOQV : Hid (LwO (w11.alloc (.cells #[.slice ra rs.length rc] 24)) w9.heap.size (.slice qa qs.length qc) qs) := hid (((HOQ.out.kept (below_alloc (.cells #[.slice qa qs.length qc] 24))).kept hb11).kept (below_alloc _))
      have HORV : Hid (LwO (w11.alloc (.cells #[.slice ra rs.length rc] 24)) (w10.heap.size + 1) (.slice ra rs.length rc) rs) := hid ((lwMono hor (by simp)).kept (below_alloc _))
      have BQ : Hid (Blk (w11.alloc (.cells #[.slice ra rs.length rc] 24)) w10.heap.size 24 #[.slice qa qs.length qc]) := hid (((Blk.new _ _ _).kept hb11).kept (below_alloc _))
      have BR : Hid (Blk (w11.alloc (.cells #[.slice ra rs.length rc] 24)) w11.heap.size 24 #[.slice ra rs.length rc]) := hid (Blk.new _ _ _)
      have hs10 := hb10'.out
      have hs11 : w10.heap.size < w11.heap.size := by have := hb11.size; simp at this; omega
      have HXV := hid (W.reads_kept HX9.out HBV.out)
      have HCV := hid (cell_below HC9.out HBV.out)
      have HYV := hid (own_kept HOY9.out HBV.out)
      have BPV := hid (BP9.out.kept HBV.out)
      have HBVw : Hid (Below w.heap.size w (w11.alloc (.cells #[.slice ra rs.length rc] 24))) := hid (bl_then HB9w.out HBV.out)
      have HQL := hid (HKF.out qs HMQ.out)
      clear hmr hor hb11 HOQ HB10 HX10 HX9 HC9 HOY9 BP9 HB9w HBV
      go_wp2_with fail
      generalize w11.alloc (.cells #[.slice ra rs.length rc] 24) = V at *
      generalize w11.heap.size = qr at *
      generalize w10.heap.size = hq at *
      generalize w9.heap.size = bq at *
      obtain ⟨_, _, eq63, q63⟩ := rowS_sl (own_row HOQV.out.row (fun _ _ => trivial))
      clear eq63
      have q64 : (qs.length : Int) ≤ 9223372036854775807 := by omega
      go_loopw [15] (fun r wr => ∃ i : Nat, r = .int .i64 i ∧ i ≤ qs.length ∧ Hid (QI V wr bq hq (.slice qa qs.length qc) qs i)) (fun r wr => qs.length - numAt wr r)
      case atStart => exact ⟨0, rfl, by omega, hid (QI.start HOQV.out hq)⟩
      case round =>
        obtain ⟨i5, rfl, hi5, HQ⟩ := hrel
        clear HOQV
        have BQr := hid (BQ.out.keep HQ.out.kp (.inr (Nat.le_refl _)))
        have xq := BQr.out.cellF
        have zq := BQr.out.lt
        by_cases hlt5 : i5 < qs.length
        · have h5 : (i5 : Int) < (qs.length : Int) := by omega
          obtain ⟨gv, cv, cur, ev, hB, c0, c1⟩ := HQ.out.at_ hlt5
          obtain ⟨⟨f1, o1⟩, ⟨f2, o2⟩⟩ := HQ.out.el i5 hlt5 (Nat.le_refl _)
          obtain ⟨da, dc, ed⟩ := own_shape o1
          obtain ⟨ea, ec, ee⟩ := own_shape o2
          have hL := HQL.out _ (List.getElem_mem hlt5)
          simp only [Value.slice.injEq, true_and] at ev
          obtain ⟨rfl, rfl⟩ := ev
          rw [ed] at c0
          rw [ee] at c1
          have zv := hB.lt
          have n63 : (qs[i5].k.dec.length : Int) ≤ 4000000 := by omega
          have HED := hid ed
          have HEE := hid ee
          have HLE := hid hL.2
          clear o1 o2 ed ee hL
          generalize hn1 : qs[i5].k.dec.length = n1 at *
          generalize hn2 : qs[i5].k.enc.length = n2 at *
          replace hn1 := hid hn1
          replace hn2 := hid hn2
          go_wp2_with fail
          clear xq zq c0 c1 zv hB
          go_loopw [16] (fun r wr => ∃ k : Nat, r = .int .i64 k ∧ k ≤ n1 ∧ Hid (QI V wr bq hq (.slice (some ⟨gv, 0, none⟩) qs.length qc) qs i5)) (fun r wr => n1 - numAt wr r)
          case atStart => exact ⟨0, rfl, by omega, HQ⟩
          case round =>
            clear HQ BQr
            obtain ⟨k6, rfl, hk6, HQ⟩ := hrel
            have BQr := hid (BQ.out.keep HQ.out.kp (.inr (Nat.le_refl _)))
            have xq := BQr.out.cellF
            have zq := BQr.out.lt
            obtain ⟨gv', cv', cur', ev', hB, c0, c1⟩ := HQ.out.at_ hlt5
            simp only [Value.slice.injEq, true_and, Option.some.injEq, Addr.mk.injEq, and_true] at ev'
            obtain ⟨rfl, rfl⟩ := ev'
            rw [HED.out] at c0
            rw [HEE.out] at c1
            have zv := hB.lt
            have yv := hB.frz
            by_cases hlt6 : k6 < n1
            · have h6 : (k6 : Int) < (n1 : Int) := by omega
              obtain ⟨⟨f1, o1⟩, -⟩ := HQ.out.el i5 hlt5 (Nat.le_refl _)
              rw [hn1.out, HED.out] at o1
              rcases o1.2 with ⟨_, h0⟩ | ⟨gd, cap, cud, e, hbg, hgg, hnc, hcm, hcs, htk⟩
              · omega
              simp only [Value.slice.injEq, true_and] at e
              obtain ⟨rfl, rfl⟩ := e
              have hjs : k6 * 5 < n1 * 5 := by omega
              have hsz : k6 * 5 < cud.size := by rw [hcs]; have := Nat.mul_le_mul_right 5 hnc; omega
              have hG : Blk wr gd _ cud := hgg
              have xg : wr.cell? ⟨gd, k6 * 5, none⟩ = some cud[k6 * 5] := hG.cell _ _ (Array.getElem?_eq_getElem hsz)
              have yg := hG.frz
              have zg := hG.lt
              have HNX := hid (HQ.out.putD HQS.out hlt5 (by rw [hn1.out]; exact HED.out) (k6 * 5) (by rw [hn1.out]; exact hjs) (.int .i64 96))
              clear o1 hgg htk hcs hcm hnc hG
              generalize cud[k6 * 5] = cvv at *
              go_wp2
              exact ⟨⟨k6 + 1, by simp, by omega, HNX⟩, by simp [numAt]; omega⟩
            · have h6 : ¬ (k6 : Int) < (n1 : Int) := by omega
              go_upto_region 20 with fail
              have HQd := hid (HQ.out.kept (below_drew1 wr))
              have BQd := hid (BQr.out.kept (below_drew1 wr))
              have c1d : Hid (wr.drew.cell? ⟨gv, i5 * 3 + 1, none⟩ = some (.slice ea n2 ec)) := hid (cell_below c1 (below_drew1 wr))
              have hBd : Hid (Blk wr.drew gv 35 cur') := hid (hB.kept (below_drew1 wr))
              have hsd : wr.heap.size ≤ wr.drew.heap.size := (below_drew1 wr).size
              have HSK : Hid (∀ W0, Below wr.drew.heap.size wr.drew W0 → (∀ k, W0.cell? ⟨hq, k, none⟩ = #[.slice (some ⟨gv, 0, none⟩) qs.length qc][k]?) ∧ W0.cell? ⟨gv, i5 * 3 + 1, none⟩ = some (.slice ea n2 ec)) := hid (fun W0 hW => ⟨(BQd.out.kept hW).cellF, cell_below c1d.out hW⟩)
              refine wp_regionL (S := SL (fun W0 => ∀ k, W0.cell? ⟨hq, k, none⟩ = #[.slice (some ⟨gv, 0, none⟩) qs.length qc][k]?) (fun W0 => W0.cell? ⟨gv, i5 * 3 + 1, none⟩ = some (.slice ea n2 ec)) 14) (by kernel_rfl) (SL.of (HSK.out _ (Below.refl _ _)).1 (HSK.out _ (Below.refl _ _)).2) (fun hHeld => ?_)
              clear HQ BQr c0 c1 xq zq hB zv yv
              have hqd := BQd.out.lt
              generalize wr.drew = wd at *
              refine takeL0 0 (v := ?_) rfl (by kernel_rfl) (by kernel_rfl) (by kernel_rfl) (fun _ _ _ h => h) (by kernel_rfl) (Or.inl ⟨by rfl, ?_⟩) hHeld (fun hHeld => ?_)
              rotate_left
              · (intro w hSw; (try obtain ⟨hSw, hSx⟩ := hSw); (try dsimp only at hSw); (try dsimp only at hSx); go_simp; (try with_reducible rfl))
              try simp only [Act.put, List.getElem_toArray, List.getElem_cons_succ, List.getElem_cons_zero, List.setIfInBounds_toArray, List.set_cons_zero, List.set_cons_succ]
              refine takeL0 1 (v := ?_) rfl (by kernel_rfl) (by kernel_rfl) (by kernel_rfl) (fun _ _ _ h => h) (by kernel_rfl) (Or.inl ⟨by rfl, ?_⟩) hHeld (fun hHeld => ?_)
              rotate_left
              · (intro w hSw; (try obtain ⟨hSw, hSx⟩ := hSw); (try dsimp only at hSw); (try dsimp only at hSx); go_simp; (try with_reducible rfl))
              try simp only [Act.put, List.getElem_toArray, List.getElem_cons_succ, List.getElem_cons_zero, List.setIfInBounds_toArray, List.set_cons_zero, List.set_cons_succ]
              refine takeL0 2 (v := ?_) rfl (by kernel_rfl) (by kernel_rfl) (by kernel_rfl) (fun _ _ _ h => h) (by kernel_rfl) (Or.inl ⟨by rfl, ?_⟩) hHeld (fun hHeld => ?_)
              rotate_left
              · (intro w hSw; (try obtain ⟨hSw, hSx⟩ := hSw); (try dsimp only at hSw); (try dsimp only at hSx); go_simp; (try with_reducible rfl))
              try simp only [Act.put, List.getElem_toArray, List.getElem_cons_succ, List.getElem_cons_zero, List.setIfInBounds_toArray, List.set_cons_zero, List.set_cons_succ]
              refine takeL0 3 (v := ?_) rfl (by kernel_rfl) (by kernel_rfl) (by kernel_rfl) (fun _ _ _ h => h) (by kernel_rfl) (Or.inl ⟨by rfl, ?_⟩) hHeld (fun hHeld => ?_)
              rotate_left
              · (intro w hSw; (try obtain ⟨hSw, hSx⟩ := hSw); (try dsimp only at hSw); (try dsimp only at hSx); go_simp; (try with_reducible rfl))
              try simp only [Act.put, List.getElem_toArray, List.getElem_cons_succ, List.getElem_cons_zero, List.setIfInBounds_toArray, List.set_cons_zero, List.set_cons_succ]
              refine takeL0 4 (v := ?_) rfl (by kernel_rfl) (by kernel_rfl) (by kernel_rfl) (fun _ _ _ h => h) (by kernel_rfl) (Or.inl ⟨by rfl, ?_⟩) hHeld (fun hHeld => ?_)
              rotate_left
              · (intro w hSw; (try obtain ⟨hSw, hSx⟩ := hSw); (try dsimp only at hSw); (try dsimp only at hSx); go_simp; (try with_reducible rfl))
              try simp only [Act.put, List.getElem_toArray, List.getElem_cons_succ, List.getElem_cons_zero, List.setIfInBounds_toArray, List.set_cons_zero, List.set_cons_succ]
              refine takeL0 5 (v := ?_) rfl (by kernel_rfl) (by kernel_rfl) (by kernel_rfl) (fun _ _ _ h => h) (by kernel_rfl) (Or.inl ⟨by rfl, ?_⟩) hHeld (fun hHeld => ?_)
              rotate_left
              · (intro w hSw; (try obtain ⟨hSw, hSx⟩ := hSw); (try dsimp only at hSw); (try dsimp only at hSx); go_simp; (try with_reducible rfl))
              try simp only [Act.put, List.getElem_toArray, List.getElem_cons_succ, List.getElem_cons_zero, List.setIfInBounds_toArray, List.set_cons_zero, List.set_cons_succ]
              refine takeL0 6 (v := ?_) rfl (by kernel_rfl) (by kernel_rfl) (by kernel_rfl) (fun _ _ _ h => h) (by kernel_rfl) (Or.inl ⟨by rfl, ?_⟩) hHeld (fun hHeld => ?_)
              rotate_left
              · (intro w hSw; (try obtain ⟨hSw, hSx⟩ := hSw); (try dsimp only at hSw); (try dsimp only at hSx); go_simp; (try with_reducible rfl))
              try simp only [Act.put, List.getElem_toArray, List.getElem_cons_succ, List.getElem_cons_zero, List.setIfInBounds_toArray, List.set_cons_zero, List.set_cons_succ]
              refine takeL0 7 (v := ?_) rfl (by kernel_rfl) (by kernel_rfl) (by kernel_rfl) (fun _ _ _ h => h) (by kernel_rfl) (Or.inl ⟨by rfl, ?_⟩) hHeld (fun hHeld => ?_)
              rotate_left
              · (intro w hSw; (try obtain ⟨hSw, hSx⟩ := hSw); (try dsimp only at hSw); (try dsimp only at hSx); go_simp; (try with_reducible rfl))
              try simp only [Act.put, List.getElem_toArray, List.getElem_cons_succ, List.getElem_cons_zero, List.setIfInBounds_toArray, List.set_cons_zero, List.set_cons_succ]
              refine takeL1 8 (v := ?_) rfl rfl (by kernel_rfl) (by kernel_rfl) (by kernel_rfl) (by kernel_rfl) (by kernel_rfl) (fun _ _ _ h => h) (by kernel_rfl) (Or.inl ⟨by rfl, ?_⟩) hHeld (fun hHeld => ?_)
              rotate_left
              · (intro w hSw; (try obtain ⟨hSw, hSx⟩ := hSw); (try dsimp only at hSw); (try dsimp only at hSx); go_simp; (try with_reducible rfl))
              try simp only [Act.put, List.getElem_toArray, List.getElem_cons_succ, List.getElem_cons_zero, List.setIfInBounds_toArray, List.set_cons_zero, List.set_cons_succ]
              refine takeL0 9 (v := ?_) rfl (by kernel_rfl) (by kernel_rfl) (by kernel_rfl) (fun _ _ _ h => h) (by kernel_rfl) (Or.inl ⟨by rfl, ?_⟩) hHeld (fun hHeld => ?_)
              rotate_left
              · (intro w hSw; (try obtain ⟨hSw, hSx⟩ := hSw); (try dsimp only at hSw); (try dsimp only at hSx); go_simp; (try with_reducible rfl))
              try simp only [Act.put, List.getElem_toArray, List.getElem_cons_succ, List.getElem_cons_zero, List.setIfInBounds_toArray, List.set_cons_zero, List.set_cons_succ]
              obtain ⟨-, ⟨f2, o2⟩⟩ := HQd.out.el i5 hlt5 (Nat.le_refl _)
              rw [hn2.out, HEE.out] at o2
              obtain ⟨a8, c8, w8, R8, G8⟩ := app1 o2 (by omega) HLE.out 95
              have HNX := hid (HQd.out.next HQS.out hlt5 rfl (by rw [HEE.out]; exact G8.out))
              have hBg : Hid (Blk w8 gv 35 cur') := hid (grow_blkQ G8.out o2 hBd.out (by decide))
              have hQg : Hid (Blk w8 hq 24 #[.slice (some ⟨gv, 0, none⟩) qs.length qc]) := hid (grow_blkQ G8.out o2 BQd.out (by decide))
              have x8 : w8.cell? ⟨gv, i5 * 3 + 1, none⟩ = some (.slice ea n2 ec) := by rw [hBg.out.cellF, ← hBd.out.cellF]; exact c1d.out
              have BQs : Hid (∀ k, (w8.setCell ⟨gv, i5 * 3 + 1, none⟩ (.slice a8 (n2 + 1) c8)).cell? ⟨hq, k, none⟩ = #[.slice (some ⟨gv, 0, none⟩) qs.length qc][k]?) := hid ((hQg.out.other (a := ⟨gv, i5 * 3 + 1, none⟩) (fun e => by have h1 := hBg.out; rw [show hq = gv from e] at hQg; have h2 := hQg.out; unfold Blk at h1 h2; rw [h1] at h2; cases h2) _).cellF)
              have y8 := hBg.out.frz
              have z8 := hBg.out.lt
              have q8 := hQg.out.cellF
              clear o2 G8
              refine wpAnyL_ready (rs := [10]) (by kernel_rfl) (by simp) ?_
              refine AllReadyL.cons rfl (fun K hK => ?_) AllReadyL.nil
              go_simp
              refine hK.out _ _ (SL.of (HSK.out _ (below_alloc _)).1 (HSK.out _ (below_alloc _)).2) (fun hHeld => ?_)
              clear hK K
              try simp only [Act.put, List.getElem_toArray, List.getElem_cons_succ, List.getElem_cons_zero, List.setIfInBounds_toArray, List.set_cons_zero, List.set_cons_succ]
              refine wpAnyL_ready (rs := [11]) (by kernel_rfl) (by simp) ?_
              refine AllReadyL.cons rfl (fun K hK => ?_) AllReadyL.nil
              refine step_append_ran rfl _ _ 32 32 rfl rfl _ _ (.slice a8 (n2 + 1) c8) w8 rfl rfl R8.out ?_
              refine hK.out _ _ (SL.of q8 x8) (fun hHeld => ?_)
              clear hK K
              try simp only [Act.put, List.getElem_toArray, List.getElem_cons_succ, List.getElem_cons_zero, List.setIfInBounds_toArray, List.set_cons_zero, List.set_cons_succ]
              refine takeL0 12 (v := ?_) rfl (by kernel_rfl) (by kernel_rfl) (by kernel_rfl) (fun _ _ _ h => h) (by kernel_rfl) (Or.inl ⟨by rfl, ?_⟩) hHeld (fun hHeld => ?_)
              rotate_left
              · (intro w hSw; (try obtain ⟨hSw, hSx⟩ := hSw); (try dsimp only at hSw); (try dsimp only at hSx); go_simp; (try with_reducible rfl))
              try simp only [Act.put, List.getElem_toArray, List.getElem_cons_succ, List.getElem_cons_zero, List.setIfInBounds_toArray, List.set_cons_zero, List.set_cons_succ]
              refine takeL0 13 (v := ?_) rfl (by kernel_rfl) (by kernel_rfl) (by kernel_rfl) (fun _ _ _ h => h) (by kernel_rfl) (Or.inl ⟨by rfl, ?_⟩) hHeld (fun hHeld => ?_)
              rotate_left
              · (intro w hSw; (try obtain ⟨hSw, hSx⟩ := hSw); (try dsimp only at hSw); (try dsimp only at hSx); go_simp; (try with_reducible rfl))
              try simp only [Act.put, List.getElem_toArray, List.getElem_cons_succ, List.getElem_cons_zero, List.setIfInBounds_toArray, List.set_cons_zero, List.set_cons_succ]
              refine wpAnyL_ready (rs := [14]) (by kernel_rfl) (by simp) ?_
              refine AllReadyL.cons rfl (fun K hK => ?_) AllReadyL.nil
              go_simp
              refine hK.out _ _ (SL.late (BQs.out) (by kernel_rfl)) (fun hHeld => ?_)
              clear hK K
              try simp only [Act.put, List.getElem_toArray, List.getElem_cons_succ, List.getElem_cons_zero, List.setIfInBounds_toArray, List.set_cons_zero, List.set_cons_succ]
              refine wpAnyL_done (by kernel_rfl) ?_ _
              go_wp2
              exact ⟨⟨i5 + 1, by simp, by omega, HNX⟩, by simp [numAt]; omega⟩
        · have h5 : ¬ (i5 : Int) < (qs.length : Int) := by omega
          have HK := hid HQ.out.kp
          have HBw : Hid (Below w.heap.size w wr) := hid (HBVw.out.trans (HK.out.below (B := w.heap.size) HBVw.out.size (fun k hk => .inl (by omega))))
          have BPw := hid (BPV.out.keep HK.out (.inl (by omega)))
          have HXw : Hid (W.Reads wr (some ⟨g, 0, none⟩) bn c xs) := hid ⟨HXV.out.length, HXV.out.le, HXV.out.max, HXV.out.bd, by
            rcases HXV.out.cells with h | ⟨b, off, e, h⟩
            · exact .inl h
            · cases e
              exact .inr ⟨g, 0, rfl, fun i hi => cell_keep16 (h i hi) HK.out (.inl (by show g < bq; omega))⟩⟩
          have HCw : Hid (wr.cell? ⟨g, bn, none⟩ = some (.int .u8 201)) := hid (cell_keep16 HCV.out HK.out (.inl (by show g < bq; omega)))
          have HYw := hid (own_keep (f := fun b => b < bq ∨ hq ≤ b) HYV.out (fun k hk => .inl (by have := LY.out k hk; omega)) HK.out)
          have BRw := hid (BR.out.keep HK.out (.inr (by omega)))
          have HRw : Hid (PgR wr (.slice ra rs.length rc) rs) := hid (lwProg (base := hq + 1) ⟨own_keep (f := fun b => b < bq ∨ hq ≤ b) HORV.out.row (fun k hk => .inr (by have := (own_type HORV.out.row hk).1; omega)) HK.out, fun x hx => ⟨own_keep (f := fun b => b < bq ∨ hq ≤ b) (HORV.out.el x hx).hd (fun k hk => .inr (by have := (own_type (HORV.out.el x hx).hd hk).1; omega)) HK.out, own_keep (f := fun b => b < bq ∨ hq ≤ b) (HORV.out.el x hx).he (fun k hk => .inr (by have := (own_type (HORV.out.el x hx).he hk).1; omega)) HK.out, own_keep (f := fun b => b < bq ∨ hq ≤ b) (HORV.out.el x hx).hr (fun k hk => .inr (by have := (own_type (HORV.out.el x hx).hr hk).1; omega)) HK.out, (HORV.out.el x hx).ap⟩⟩)
          clear HK HQ BQ BR HORV HYV HXV HCV BPV HBVw LY BQr
          have xp := BPw.out.cellF
          have zp := BPw.out.lt
          go_wp2_with fail
          clear xq zq xp zp
          refine (HBY.out _ HBw.out).mono ?_
          rintro e w12 ⟨zv, rfl, hoz, hb12⟩
          obtain ⟨za, zc, rfl⟩ := hoz.slice
          have RD : ∀ (W0 : World) (bb : Nat) (va : Option Addr) (vc : Nat), OwnB W0 bb (.slice va yn vc) Y → W.Reads W0 va yn vc Y := fun W0 bb va vc ho => by
            obtain ⟨va', cap', e, hr⟩ := W.own_reads ho HYB.out
            rw [hYn.out] at e hr
            simp only [Value.slice.injEq, true_and] at e
            obtain ⟨rfl, rfl⟩ := e
            exact hr
          have HYR : Hid (W.Reads w12 ya yn yc Y) := hid (W.reads_kept (RD _ _ _ _ HYw.out) hb12)
          have HZR : Hid (W.Reads w12 za yn zc Y) := hid (RD _ _ _ _ (by rw [hYn.out] at hoz; exact hoz))
          rw [hYn.out]
          have HX12 := hid (W.reads_kept HXw.out hb12)
          have HC12 := hid (cell_below HCw.out hb12)
          have BR12 := hid (BRw.out.kept hb12)
          have HR12 := hid (HRw.out.kept hb12)
          have HB12 : Hid (Below w.heap.size w w12) := hid (bl_then HBw.out hb12)
          clear RD hoz hb12 HYw HXw HCw BRw HRw HBw BPw
          go_wp2_with fail
          refine (HRK.out _ HB12.out).mono ?_
          rintro e w13 ⟨sa, sc, ss, rfl, hms, hos, hb13, -⟩
          have hbU : Hid (Below w12.heap.size w12 (w13.alloc (.cells #[.slice sa ss.length sc] 24))) := hid (bl_alloc hb13 _)
          have HSU : Hid (PgR (w13.alloc (.cells #[.slice sa ss.length sc] 24)) (.slice sa ss.length sc) ss) := hid ((lwProg hos).kept (below_alloc _))
          have BSU : Hid (Blk (w13.alloc (.cells #[.slice sa ss.length sc] 24)) w13.heap.size 24 #[.slice sa ss.length sc]) := hid (Blk.new _ _ _)
          have HSM := hid (sameD _ rs ss ra sa rc sc (HR12.out.kept hbU.out) HSU.out)
          have HEQ : Hid (rs.map BV.k = ss.map BV.k) := hid (HMR.out.trans hms.symm)
          have hcy := W.conv (W.reads_kept HYR.out hbU.out)
          have hcz := W.conv (W.reads_kept HZR.out hbU.out)
          have BRU := hid (BR12.out.kept hbU.out)
          have HXU := hid (W.reads_kept HX12.out hbU.out)
          have HCU := hid (cell_below HC12.out hbU.out)
          have HBU : Hid (Below w.heap.size w (w13.alloc (.cells #[.slice sa ss.length sc] 24))) := hid (bl_then HB12.out hbU.out)
          clear hms hos hb13 hbU HSU HYR HZR BR12 HX12 HC12 HR12 HB12
          have xr := BRU.out.cellF
          have zr := BRU.out.lt
          have xs9 := BSU.out.cellF
          have zs9 := BSU.out.lt
          go_wp2_with fail
          refine HSM.out.mono ?_
          rintro e w14 ⟨r, rfl, hr, hb14⟩
          obtain rfl : r = true := hr.2 HEQ.out
          have HRB14 := hid (W.reads_kept HRB.out (bl_then HBU.out hb14))
          have hcc := W.conv (W.reads_kept HXU.out hb14)
          have hcb := W.conv HRB14.out
          have h201 := cell_below HCU.out hb14
          have HB14 := hid (bl_then HBU.out hb14)
          have hg14 : g < w14.heap.size := World.block_lt_of_cell? _ _ h201
          clear xr zr xs9 zs9 hcy hcz hr hb14 HSM HEQ BRU BSU HXU HCU HBU
          go_wp2
          go_ret
          exact ⟨rfl, HB14.out⟩
end Go.Proofs.YtpndejibjiojbaaDoor
namespace Go.Proofs.YtpndejibjiojbaaDoor
open Go.ChangeShapes Go.WideShapes Go.ChangeAt Go.RowKit Go.Deep
set_option maxRecDepth 1000000
section
variable {H : Type}
theorem bulk_one (d : DataW H) : 1 ≤ Rows.uptoBulk d := by
  cases d with
  | lit l => cases l <;> simp [Rows.uptoBulk]
  | nil => simp [Rows.uptoBulk]
  | ptr d => simp [Rows.uptoBulk]
  | slice elems spare => simp [Rows.uptoBulk]
  | agg parts => simp [Rows.uptoBulk]
  | iface t d => simp [Rows.uptoBulk]
  | map entries => simp [Rows.uptoBulk]
  | held h => simp [Rows.uptoBulk]
theorem bulk_length (l : List (DataW H)) : l.length ≤ Rows.uptoBulkAll l := by
  induction l with
  | nil => simp [Rows.uptoBulkAll]
  | cons x r ih => have := bulk_one x; simp only [Rows.uptoBulkAll, List.length_cons]; omega
theorem small_le {l : List (DataW H)} (hk : Rows.uptoSmall H l = true) : Rows.uptoBulkAll l ≤ 1048576 := of_decide_eq_true hk
end
end Go.Proofs.YtpndejibjiojbaaDoor
namespace Go.Proofs.YtpndejibjiojbaaDoor
open Go.ChangeShapes Go.WideShapes Go.ChangeAt Go.RowKit Go.Deep
set_option maxRecDepth 1000000
set_option linter.unusedVariables false
set_option linter.unusedSimpArgs false
set_option maxHeartbeats 1000000
section
variable {H : Type} {enc : TypeId × Value → H} {W : World} {spare : Nat → Bool} {held : Bool}
/-- A struct of fields of one cell each, opened. -/
theorem struct_open {t : TypeId} {fs : Array Field} (ht : Tryd.prog.underlying t = some (.struct fs)) (hone : oneCellFields Tryd.prog fs = true) (hsz : Tryd.prog.cellsOf t = fs.size) {fuel : Nat} {cs : List Value} {y : DataW H × List MemPlace} (h : DataW.trod enc Tryd.prog W 0 spare held fuel t cs = some y) :
    ∃ (xs : List (DataW H × List MemPlace)) (n : Nat), y.1 = .agg (xs.map (·.1)) ∧ xs.length = fs.size ∧ cs.length = fs.size ∧ ∀ (i : Nat) (f : Field), fs[i]? = some f → ∃ v yi, cs[i]? = some v ∧ xs[i]? = some yi ∧ DataW.trod enc Tryd.prog W 0 spare held n f.type [v] = some yi := by
  obtain ⟨xs, n, _, rfl, hl, hlen, hf⟩ := DataW.trod_struct ht h
  refine ⟨xs, n, rfl, hlen, hl.trans hsz, fun i f hi => ?_⟩
  have hlt : i < fs.size := (Array.getElem?_eq_some_iff.1 hi).1
  obtain ⟨o1, o2⟩ := hone_of hone i f hi
  have hc : i < cs.length := by omega
  have hx : i < xs.length := by omega
  refine ⟨cs[i], xs[i], by simp [hc], by simp [hx], ?_⟩
  have := hf i f hi
  have e : (cs.drop i).take 1 = [cs[i]] := by rw [List.drop_eq_getElem_cons hc]; rfl
  rw [o1, o2, e] at this
  rw [this]
  simp [hx]
theorem bulk_mem {l : List (DataW H)} {d : DataW H} (h : d ∈ l) : Rows.uptoBulk d ≤ Rows.uptoBulkAll l := by
  induction l with
  | nil => cases h
  | cons x r ih =>
    simp only [Rows.uptoBulkAll]
    rcases List.mem_cons.1 h with rfl | h
    · omega
    · have := ih h; omega
theorem bulk_get {xs : List (DataW H × List MemPlace)} {i : Nat} {y : DataW H × List MemPlace} (h : xs[i]? = some y) : Rows.uptoBulk y.1 + 1 ≤ Rows.uptoBulk (DataW.agg (xs.map (·.1))) := by
  have := bulk_mem (l := xs.map (·.1)) (d := y.1) (List.mem_map.2 ⟨y, List.mem_of_getElem? h, rfl⟩)
  simp only [Rows.uptoBulk]
  omega
/-- A row of structs, opened. -/
theorem rows_open {α : Type} (g : α → List Value) (K : Nat) (hK0 : 0 < K) (Q : α → DataW H → Prop) {t e : TypeId} (ht : Tryd.prog.underlying t = some (.slice e)) (hK : Tryd.prog.cellsOf e = K) (hg : ∀ x, (g x).length = K)
    (hel : ∀ (n : Nat) (cs : List Value) (y : DataW H × List MemPlace), DataW.trod enc Tryd.prog W 0 spare held n e cs = some y → ∃ x, cs = g x ∧ Q x y.1) {fuel : Nat} {v : Value} {y : DataW H × List MemPlace} (hf : DataW.trod enc Tryd.prog W 0 spare held fuel t [v] = some y) :
    ∃ (a : Option Addr) (cap : Nat) (xs : List α), v = .slice a xs.length cap ∧ RowS W AnyZ K v xs.length (xs.flatMap g) ∧ xs.length + 1 ≤ Rows.uptoBulk y.1 ∧ ∀ x ∈ xs, ∃ d, Q x d ∧ Rows.uptoBulk d ≤ Rows.uptoBulk y.1 := by
  rcases open_slice ht hf with ⟨hcs, rfl⟩ | ⟨a, len, cap, m, n, D, Pl, hcs, _, hl, hm, hmm, rfl, hx⟩
  · simp at hcs
    subst hcs
    exact ⟨none, 0, [], rfl, rowS_nil _ _ _, by simp [Rows.uptoBulk], fun x hx => by cases hx⟩
  · simp at hcs
    subst hcs
    rw [hK] at hx
    have hlm : len ≤ m := by rw [hmm]; split <;> omega
    have hc : ∀ i, i < len → ∃ x : α, W.cells? 0 (a.add (i * K)) K = some (g x) ∧ Q x (D i) := fun i hi => by
      obtain ⟨cs', h1, h2⟩ := hx i (by omega)
      obtain ⟨x, rfl, hq⟩ := hel _ _ _ h2
      exact ⟨x, h1, hq⟩
    obtain ⟨xs, hxl, hxs⟩ : ∃ xs : List α, xs.length = len ∧ ∀ i (h : i < xs.length), W.cells? 0 (a.add (i * K)) K = some (g xs[i]) ∧ Q xs[i] (D i) := by
      clear hx hl hlm hmm hf
      induction len with
      | zero => exact ⟨[], rfl, fun i h => by simp at h⟩
      | succ k ih =>
        obtain ⟨xs, h1, h2⟩ := ih (fun i hi => hc i (by omega))
        obtain ⟨x, h3, h4⟩ := hc k (by omega)
        refine ⟨xs ++ [x], by simp [h1], fun i h => ?_⟩
        by_cases e : i < xs.length
        · rw [List.getElem_append_left e]; exact h2 i e
        · have ei : i = k := by simp at h; omega
          subst ei
          rw [List.getElem_append_right (by omega)]
          simp [h1, h3, h4]
    subst hxl
    have hb : ∀ i, i < xs.length → D i ∈ (List.range xs.length).map D := fun i hi => List.mem_map.2 ⟨i, List.mem_range.2 hi, rfl⟩
    refine ⟨some a, cap, xs, rfl, ⟨some a, cap, rfl, flatM_len hg xs, hl, by unfold maxLen at hm; omega, ?_⟩, ?_, fun x hxm => ?_⟩
    · by_cases h0 : xs.length = 0
      · exact .inl ⟨h0, fun e => by cases e⟩
      · obtain ⟨b, off, spot⟩ := a
        have hspot : spot = none := by
          have h1 := (World.cells?_some (hxs 0 (by omega)).1).2.2 0 hK0
          have h2 : (g xs[0])[0]? = some ((g xs[0])[0]'(by rw [hg]; exact hK0)) := by simp
          rw [h2] at h1
          simpa [Addr.add] using World.cell?_spot h1
        subst hspot
        refine .inr ⟨b, off, rfl, trivial, fun j u hu => ?_⟩
        have hj : j < xs.length * K := by rw [← flatM_len hg xs]; exact (List.getElem?_eq_some_iff.1 hu).1
        have hi : j / K < xs.length := (Nat.div_lt_iff_lt_mul hK0).2 hj
        have hr : j % K < K := Nat.mod_lt _ hK0
        have hjj : j / K * K + j % K = j := by rw [Nat.mul_comm]; exact Nat.div_add_mod j K
        have h2 : (g xs[j / K])[j % K]? = some ((g xs[j / K])[j % K]'(by rw [hg]; exact hr)) := by simp
        have h3 := flatM_get hg xs (j / K) (j % K) xs[j / K] _ (by simp [hi]) h2
        rw [hjj] at h3
        rw [h3] at hu
        have h1 := (World.cells?_some (hxs (j / K) hi).1).2.2 (j % K) hr
        have hadd : ((⟨b, off, none⟩ : Addr).add (j / K * K)).add (j % K) = ⟨b, off + j, none⟩ := by
          have e1 : ∀ (o i : Nat), (⟨b, o, none⟩ : Addr).add i = ⟨b, o + i, none⟩ := fun o i => by unfold Addr.add; split <;> simp_all
          rw [e1, e1, Nat.add_assoc, hjj]
        rw [hadd, h2] at h1
        rw [h1]
        exact hu
    · simp only [Rows.uptoBulk]
      have := bulk_length ((List.range xs.length).map D)
      simp at this
      omega
    · obtain ⟨i, hi, rfl⟩ := List.mem_iff_getElem.1 hxm
      refine ⟨D i, (hxs i hi).2, ?_⟩
      have := bulk_mem (hb i hi)
      simp only [Rows.uptoBulk]
      omega
theorem int_open {n : Nat} {v : Value} {y : DataW H × List MemPlace} (h : DataW.trod enc Tryd.prog W 0 spare held n 3 [v] = some y) : ∃ x : Int, v = .int .i64 x ∧ I64 x := by
  obtain ⟨x, e, rfl, hs⟩ := DataW.trod_int Tryd.underlying3 h
  simp at e
  subst e
  refine ⟨x, rfl, ?_⟩
  unfold I64
  simp [Lit.wf, IntKind.min, IntKind.max, IntKind.signed, IntKind.bits] at hs
  omega
end
end Go.Proofs.YtpndejibjiojbaaDoor
namespace Go.Proofs.YtpndejibjiojbaaDoor
open Go.ChangeShapes Go.WideShapes Go.ChangeAt Go.RowKit Go.Deep
set_option maxRecDepth 1000000
set_option linter.unusedVariables false
set_option linter.unusedSimpArgs false
set_option maxHeartbeats 1000000
theorem list_eq {cs : List Value} : ∀ (l : List Value), cs.length = l.length → (∀ (i : Nat) (v : Value), l[i]? = some v → cs[i]? = some v) → cs = l := fun l hl h => by
  apply List.ext_getElem? 
  intro i
  by_cases hi : i < l.length
  · rw [h i l[i] (by simp [hi])]; simp [hi]
  · rw [List.getElem?_eq_none (by omega), List.getElem?_eq_none (by omega)]
section
variable {H : Type} {enc : TypeId × Value → H} {W : World} {spare : Nat → Bool} {held : Bool}
end
end Go.Proofs.YtpndejibjiojbaaDoor
namespace Go.Proofs.YtpndejibjiojbaaDoor
open Go.ChangeShapes Go.WideShapes Go.ChangeAt Go.RowKit Go.Deep
set_option maxRecDepth 1000000
set_option linter.unusedVariables false
set_option linter.unusedSimpArgs false
set_option maxHeartbeats 1000000
theorem fieldsIn : ∃ f0 f1 f2 f3 f4, Tryd.prog.underlying 37 = some (.struct #[f0, f1, f2, f3, f4]) ∧ oneCellFields Tryd.prog #[f0, f1, f2, f3, f4] = true ∧ Tryd.prog.cellsOf 37 = 5 ∧ f0.type = 3 ∧ f1.type = 3 ∧ f2.type = 3 ∧ f3.type = 3 ∧ f4.type = 3 :=
  ⟨_, _, _, _, _, Tryd.underlying37, by kernel_rfl, by kernel_rfl, by kernel_rfl, by kernel_rfl, by kernel_rfl, by kernel_rfl, by kernel_rfl⟩
theorem fieldsLn : ∃ f0 f1, Tryd.prog.underlying 50 = some (.struct #[f0, f1]) ∧ oneCellFields Tryd.prog #[f0, f1] = true ∧ Tryd.prog.cellsOf 50 = 2 ∧ f0.type = 3 ∧ f1.type = 3 :=
  ⟨_, _, Tryd.underlying50, by kernel_rfl, by kernel_rfl, by kernel_rfl, by kernel_rfl⟩
theorem fieldsBk : ∃ f0 f1 f2, Tryd.prog.underlying 35 = some (.struct #[f0, f1, f2]) ∧ oneCellFields Tryd.prog #[f0, f1, f2] = true ∧ Tryd.prog.cellsOf 35 = 3 ∧ f0.type = 32 ∧ f1.type = 32 ∧ f2.type = 33 :=
  ⟨_, _, _, Tryd.underlying35, by kernel_rfl, by kernel_rfl, by kernel_rfl, by kernel_rfl, by kernel_rfl⟩
theorem fieldsPg : ∃ f0, Tryd.prog.underlying 24 = some (.struct #[f0]) ∧ oneCellFields Tryd.prog #[f0] = true ∧ Tryd.prog.cellsOf 24 = 1 ∧ Tryd.prog.underlying f0.type = some (.slice 35) :=
  ⟨_, Tryd.underlying24, by kernel_rfl, by kernel_rfl, by kernel_rfl⟩
section
variable {H : Type} {enc : TypeId × Value → H} {W : World} {spare : Nat → Bool} {held : Bool}
theorem in_open (n : Nat) (cs : List Value) (y : DataW H × List MemPlace) (h : DataW.trod enc Tryd.prog W 0 spare held n 37 cs = some y) : ∃ x : IN, cs = cIN x ∧ I5 x := by
  obtain ⟨f0, f1, f2, f3, f4, hs, hone, hsz, t0, t1, t2, t3, t4⟩ := fieldsIn
  obtain ⟨xs, m, hy, hxl, hcl, hi⟩ := struct_open hs hone hsz h
  obtain ⟨v0, y0, c0, x0, h0⟩ := hi 0 f0 rfl
  rw [t0] at h0
  obtain ⟨v1, y1, c1, x1, h1⟩ := hi 1 f1 rfl
  rw [t1] at h1
  obtain ⟨v2, y2, c2, x2, h2⟩ := hi 2 f2 rfl
  rw [t2] at h2
  obtain ⟨v3, y3, c3, x3, h3⟩ := hi 3 f3 rfl
  rw [t3] at h3
  obtain ⟨v4, y4, c4, x4, h4⟩ := hi 4 f4 rfl
  rw [t4] at h4
  obtain ⟨a0, rfl, k0⟩ := int_open h0
  obtain ⟨a1, rfl, k1⟩ := int_open h1
  obtain ⟨a2, rfl, k2⟩ := int_open h2
  obtain ⟨a3, rfl, k3⟩ := int_open h3
  obtain ⟨a4, rfl, k4⟩ := int_open h4
  refine ⟨⟨a0, a1, a2, a3, a4⟩, list_eq _ (by rw [hcl]; rfl) fun i v hv => ?_, ?_⟩
  · match i, hv with
    | 0, hv => simp [cIN] at hv; subst hv; exact c0
    | 1, hv => simp [cIN] at hv; subst hv; exact c1
    | 2, hv => simp [cIN] at hv; subst hv; exact c2
    | 3, hv => simp [cIN] at hv; subst hv; exact c3
    | 4, hv => simp [cIN] at hv; subst hv; exact c4
    | i + 5, hv => simp [cIN] at hv
  · constructor <;> assumption
theorem ln_open (n : Nat) (cs : List Value) (y : DataW H × List MemPlace) (h : DataW.trod enc Tryd.prog W 0 spare held n 50 cs = some y) : ∃ x : LN, cs = cLN x ∧ (I64 x.tag ∧ I64 x.pl) := by
  obtain ⟨f0, f1, hs, hone, hsz, t0, t1⟩ := fieldsLn
  obtain ⟨xs, m, hy, hxl, hcl, hi⟩ := struct_open hs hone hsz h
  obtain ⟨v0, y0, c0, x0, h0⟩ := hi 0 f0 rfl
  rw [t0] at h0
  obtain ⟨v1, y1, c1, x1, h1⟩ := hi 1 f1 rfl
  rw [t1] at h1
  obtain ⟨a0, rfl, k0⟩ := int_open h0
  obtain ⟨a1, rfl, k1⟩ := int_open h1
  refine ⟨⟨a0, a1⟩, list_eq _ (by rw [hcl]; rfl) fun i v hv => ?_, k0, k1⟩
  match i, hv with
  | 0, hv => simp [cLN] at hv; subst hv; exact c0
  | 1, hv => simp [cLN] at hv; subst hv; exact c1
  | i + 2, hv => simp [cLN] at hv
theorem bv_open (n : Nat) (cs : List Value) (y : DataW H × List MemPlace) (h : DataW.trod enc Tryd.prog W 0 spare held n 35 cs = some y) : ∃ x : BV, cs = cBV x ∧ (BkR W x.k x.d x.e x.r ∧ IB x ∧ (Rows.uptoBulk y.1 ≤ 1048576 → x.k.dec.length ≤ 1048576 ∧ x.k.enc.length ≤ 1048576 ∧ x.k.rows.length ≤ 1048576)) := by
  obtain ⟨f0, f1, f2, hs, hone, hsz, t0, t1, t2⟩ := fieldsBk
  obtain ⟨xs, m, hy, hxl, hcl, hi⟩ := struct_open hs hone hsz h
  obtain ⟨v0, y0, c0, x0, h0⟩ := hi 0 f0 rfl
  rw [t0] at h0
  have b0 := bulk_get x0
  obtain ⟨v1, y1, c1, x1, h1⟩ := hi 1 f1 rfl
  rw [t1] at h1
  have b1 := bulk_get x1
  obtain ⟨v2, y2, c2, x2, h2⟩ := hi 2 f2 rfl
  rw [t2] at h2
  have b2 := bulk_get x2
  rw [← hy] at b0 b1 b2
  obtain ⟨da, dc, ds, rfl, rd, ld, qd⟩ := rows_open cIN 5 (by decide) (fun x d => I5 x) Tryd.underlying32 (by kernel_rfl) (fun _ => rfl) in_open h0
  obtain ⟨ea, ec, es, rfl, re, le, qe⟩ := rows_open cIN 5 (by decide) (fun x d => I5 x) Tryd.underlying32 (by kernel_rfl) (fun _ => rfl) in_open h1
  obtain ⟨ra, rc, rs, rfl, rr, lr, qr⟩ := rows_open cLN 2 (by decide) (fun x d => I64 x.tag ∧ I64 x.pl) Tryd.underlying33 (by kernel_rfl) (fun _ => rfl) ln_open h2
  refine ⟨⟨⟨ds, es, rs⟩, _, _, _⟩, list_eq _ (by rw [hcl]; rfl) fun i v hv => ?_, ⟨rd, re, rr⟩, ⟨fun s hs => ?_, fun s hs => ?_, fun r hr => ?_⟩, fun hb => ⟨?_, ?_, ?_⟩⟩
  · match i, hv with
    | 0, hv => simp [cBV] at hv; subst hv; exact c0
    | 1, hv => simp [cBV] at hv; subst hv; exact c1
    | 2, hv => simp [cBV] at hv; subst hv; exact c2
    | i + 3, hv => simp [cBV] at hv
  · obtain ⟨d, hd, _⟩ := qd s hs
    exact hd
  · obtain ⟨d, hd, _⟩ := qe s hs
    exact hd
  · obtain ⟨d, hd, _⟩ := qr r hr
    have := hd.1
    unfold I64 at this
    omega
  · dsimp only
    omega
  · dsimp only
    omega
  · dsimp only
    omega
theorem pgN_le : ∀ (l : List BV) (B : Nat), (∀ x ∈ l, bkN x.k ≤ B) → pgN l ≤ 12 + l.length * B
  | [], _, _ => by simp [pgN]
  | x :: l, B, h => by
    have h1 := pgN_le l B (fun y hy => h y (List.mem_cons_of_mem _ hy))
    have h2 := h x List.mem_cons_self
    rw [pgN, List.length_cons, Nat.add_mul]
    omega
theorem pg_open {n : Nat} {v : Value} {y : DataW H × List MemPlace} (h : DataW.trod enc Tryd.prog W 0 spare held n 24 [v] = some y) : ∃ (a : Option Addr) (c : Nat) (l : List BV), v = .slice a l.length c ∧ PgR W (.slice a l.length c) l ∧ (∀ x ∈ l, IK x.k) ∧ (Rows.uptoBulk y.1 ≤ 1048576 → pgN l ≤ 140737488355000) := by
  obtain ⟨f0, hs, hone, hsz, t0⟩ := fieldsPg
  obtain ⟨xs, m, hy, hxl, hcl, hi⟩ := struct_open hs hone hsz h
  obtain ⟨v0, y0, c0, x0, h0⟩ := hi 0 f0 rfl
  simp at c0
  subst c0
  have b0 := bulk_get x0
  rw [← hy] at b0
  obtain ⟨a, c, l, rfl, r, hl, q⟩ := rows_open cBV 3 (by decide) (fun x d => BkR W x.k x.d x.e x.r ∧ IB x ∧ (Rows.uptoBulk d ≤ 1048576 → x.k.dec.length ≤ 1048576 ∧ x.k.enc.length ≤ 1048576 ∧ x.k.rows.length ≤ 1048576)) t0 (by kernel_rfl) (fun _ => rfl) bv_open h0
  refine ⟨a, c, l, rfl, ⟨r, fun x hx => by obtain ⟨d, hd, _⟩ := q x hx; exact hd.1⟩, fun x hx => by obtain ⟨d, hd, _⟩ := q x hx; exact hd.2.1.ik, fun hb => ?_⟩
  have h1 := pgN_le l 106954782 (fun x hx => by
    obtain ⟨d, hd, hdb⟩ := q x hx
    have := hd.2.2 (by omega)
    unfold bkN
    omega)
  have h2 : l.length * 106954782 ≤ 1048576 * 106954782 := Nat.mul_le_mul_right _ (by omega)
  omega
end
end Go.Proofs.YtpndejibjiojbaaDoor
namespace Go.Proofs.YtpndejibjiojbaaDoor.W
open Go.ChangeShapes Go.WideShapes Go.ChangeAt Go.RowKit Go.Deep
set_option maxRecDepth 1000000
section
variable {H : Type}
theorem bulk_one (d : DataW H) : 1 ≤ Rows.uptoBulk d := by
  cases d with
  | lit l => cases l <;> simp [Rows.uptoBulk]
  | nil => simp [Rows.uptoBulk]
  | ptr d => simp [Rows.uptoBulk]
  | slice elems spare => simp [Rows.uptoBulk]
  | agg parts => simp [Rows.uptoBulk]
  | iface t d => simp [Rows.uptoBulk]
  | map entries => simp [Rows.uptoBulk]
  | held h => simp [Rows.uptoBulk]
theorem bulk_length (l : List (DataW H)) : l.length ≤ Rows.uptoBulkAll l := by
  induction l with
  | nil => simp [Rows.uptoBulkAll]
  | cons x r ih => have := bulk_one x; simp only [Rows.uptoBulkAll, List.length_cons]; omega
theorem small_le {l : List (DataW H)} (hk : Rows.uptoSmall H l = true) : Rows.uptoBulkAll l ≤ 1048576 := of_decide_eq_true hk
end
section
variable {H : Type} {enc : TypeId × Value → H} {W : World} {spare : Nat → Bool} {held : Bool}
/-- A slice of bytes, opened. -/
theorem bytes_open {fuel : Nat} {v : Value} {y : DataW H × List MemPlace} (hf : DataW.trod enc Tryd.prog W 0 spare held fuel 25 [v] = some y) :
    ∃ a len cap xs, v = .slice a len cap ∧ Reads W a len cap xs ∧ len + 1 ≤ Rows.uptoBulk y.1 := by
  rcases open_ints Tryd.underlying25 Tryd.underlying5 (by kernel_rfl) hf with ⟨hcs, rfl⟩ | ⟨x, l, c, zs, hcs, _, hl, hm, hz, rfl, hcell, hwz⟩
  · simp at hcs
    subst hcs
    exact ⟨none, 0, 0, [], rfl, reads_nil W, by simp [Rows.uptoBulk]⟩
  · simp at hcs
    subst hcs
    have hzl : l ≤ zs.length := by rw [hz]; split <;> omega
    have hb : ∀ x ∈ zs.take l, 0 ≤ x ∧ x ≤ 255 := fun x hx => bounds_u8 (hwz x (List.mem_of_mem_take hx))
    refine ⟨some x, l, c, zs.take l, rfl, ⟨by simp; omega, hl, by unfold maxLen at hm; omega, bd_get hb, ?_⟩, ?_⟩
    · by_cases h0 : l = 0
      · exact .inl ⟨h0, fun e => by cases e⟩
      · obtain ⟨b, off, spot⟩ := x
        have hc := hcell 0 (by omega)
        have hspot : spot = none := by simpa [Addr.add] using World.cell?_spot hc
        subst hspot
        refine .inr ⟨b, off, rfl, fun i hi => ?_⟩
        have hadd : (⟨b, off, none⟩ : Addr).add i = ⟨b, off + i, none⟩ := by unfold Addr.add; split <;> simp_all
        have := hcell i (by omega)
        rw [hadd] at this
        rw [this]
        simp [hi]
    · simp only [Rows.uptoBulk]
      have := bulk_length (lits (H := H) .u8 (zs.take l))
      simp [lits] at this
      have e : (lits (H := H) .u8 (zs.take l)).length = l := by simp [lits]; omega
      have := bulk_length (lits (H := H) .u8 (zs.take l))
      omega
end
end Go.Proofs.YtpndejibjiojbaaDoor.W
namespace Go.Proofs.YtpndejibjiojbaaDoor
open Go.WideShapes
set_option maxRecDepth 100000 in
theorem block_in {W : World} {r : Reach} {base : Nat} {t e : TypeId} {a : Option Addr} {len cap : Nat} (ht : Tryd.prog.underlying t = some (.slice e)) (h : Value.okWide Tryd.prog W r base t (.slice a len cap)) : ∀ x, a = some x → x.block < W.heap.size := by
  intro x hx
  subst hx
  unfold Value.okWide at h
  rw [ht] at h
  dsimp only at h
  unfold Cell.okWide at h
  rw [ht] at h
  dsimp only at h
  unfold Cell.ok at h
  rw [ht] at h
  dsimp only at h
  obtain ⟨-, -, -, -, rw1, cl1, hs, -⟩ := h
  unfold World.shape? at hs
  cases q : W.heap[x.block]? with
  | none => rw [q] at hs; simp at hs
  | some o => exact (Array.getElem?_eq_some_iff.1 q).1
end Go.Proofs.YtpndejibjiojbaaDoor
namespace Go.Proofs.YtpndejibjiojbaaDoor
open Go.ChangeShapes Go.WideShapes Go.ChangeAt Go.RowKit
set_option maxRecDepth 1000000
set_option maxRecDepth 100000
/-- The rows' list. -/
def laidL : List (String × DataW Unit) := [("math/bits.deBruijn32tab", Rows.laid_math_bits_deBruijn32tab), ("math/bits.deBruijn64tab", Rows.laid_math_bits_deBruijn64tab), ("internal/strconv.uint64pow10", Rows.laid_internal_strconv_uint64pow10)]
theorem laid_plain {W : World} (h : laidMetH Tryd.prog laidL W) : laidMet Tryd.prog laidL W := h
/-- A block's cells laid anew. -/
noncomputable def layAt (g : Nat) (cs : Array Value) (w : World) : World := { w with heap := w.heap.modify g fun
      | .cells _ t frozen => .cells cs t frozen
      | o => o }
noncomputable def laidWorld (os : Os) : World :=
  (layAt 0 (List.toArray (.int .u64 1 :: .int .u64 10 :: .int .u64 100 :: .int .u64 1000 :: .int .u64 10000 :: .int .u64 100000 :: .int .u64 1000000 :: .int .u64 10000000 :: .int .u64 100000000 :: .int .u64 1000000000 :: .int .u64 10000000000 :: .int .u64 100000000000 :: .int .u64 1000000000000 :: .int .u64 10000000000000 :: .int .u64 100000000000000 :: .int .u64 1000000000000000 :: .int .u64 10000000000000000 :: .int .u64 100000000000000000 :: .int .u64 1000000000000000000 :: .int .u64 10000000000000000000 :: []))
    (layAt 2 (List.toArray (.int .u8 0 :: .int .u8 1 :: .int .u8 56 :: .int .u8 2 :: .int .u8 57 :: .int .u8 49 :: .int .u8 28 :: .int .u8 3 :: .int .u8 61 :: .int .u8 58 :: .int .u8 42 :: .int .u8 50 :: .int .u8 38 :: .int .u8 29 :: .int .u8 17 :: .int .u8 4 :: .int .u8 62 :: .int .u8 47 :: .int .u8 59 :: .int .u8 36 :: .int .u8 45 :: .int .u8 43 :: .int .u8 51 :: .int .u8 22 :: .int .u8 53 :: .int .u8 39 :: .int .u8 33 :: .int .u8 30 :: .int .u8 24 :: .int .u8 18 :: .int .u8 12 :: .int .u8 5 :: .int .u8 63 :: .int .u8 55 :: .int .u8 48 :: .int .u8 27 :: .int .u8 60 :: .int .u8 41 :: .int .u8 37 :: .int .u8 16 :: .int .u8 46 :: .int .u8 35 :: .int .u8 44 :: .int .u8 21 :: .int .u8 52 :: .int .u8 32 :: .int .u8 23 :: .int .u8 11 :: .int .u8 54 :: .int .u8 26 :: .int .u8 40 :: .int .u8 15 :: .int .u8 34 :: .int .u8 20 :: .int .u8 31 :: .int .u8 10 :: .int .u8 25 :: .int .u8 14 :: .int .u8 19 :: .int .u8 9 :: .int .u8 13 :: .int .u8 8 :: .int .u8 7 :: .int .u8 6 :: []))
    (layAt 1 (List.toArray (.int .u8 0 :: .int .u8 1 :: .int .u8 28 :: .int .u8 2 :: .int .u8 29 :: .int .u8 14 :: .int .u8 24 :: .int .u8 3 :: .int .u8 30 :: .int .u8 22 :: .int .u8 20 :: .int .u8 15 :: .int .u8 25 :: .int .u8 17 :: .int .u8 4 :: .int .u8 8 :: .int .u8 31 :: .int .u8 27 :: .int .u8 13 :: .int .u8 23 :: .int .u8 21 :: .int .u8 19 :: .int .u8 16 :: .int .u8 7 :: .int .u8 26 :: .int .u8 12 :: .int .u8 18 :: .int .u8 6 :: .int .u8 11 :: .int .u8 5 :: .int .u8 10 :: .int .u8 9 :: []))
    (World.holding Tryd.prog os ⟨#[], #[], []⟩))))
theorem laid_met (os : Os) (args : Array Value) : laidMet Tryd.prog laidL ((laidWorld os).forCall (fun _ _ => 0) ⟨#[], args, []⟩).memory :=
  laidMet_of_run' 8 (by kernel_rfl) (by kernel_rfl)
end Go.Proofs.YtpndejibjiojbaaDoor
