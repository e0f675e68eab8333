/-
  What follows a Case.
  What follows a Case, and what is written.
  What is written of a field.
  A message's steps: Enc, Dec.
  A message's steps: Enc.
-/
import Derived.Test.YtmcbllannkhfaaaGreatDoorCTY
import Derived.Test.YtmcbllannkhfaaaGreatDoorCTA
namespace Go.Proofs.YtmcbllannkhfaaaGreatDoor
open Go.RowKit
set_option maxRecDepth 1000000
set_option linter.unusedVariables false
set_option linter.unusedSimpArgs false
set_option maxHeartbeats 1000000
theorem LF.keep {base p : Nat} {w w' : World} (h : LF base p w w') (hb : base ≤ w.heap.size) : Keep (· < base) w w' := ⟨h.os, h.tape, h.output, h.size, fun k hk hf => h.block k hk (.inl hf)⟩
theorem becomesT (w : World) (l : Int) : Calls Tryz.prog 122 #[.int .i64 l] w fun e w' => e = .returned (.int .i64 (becV l)) ∧ w' = w := by
  have HX : Hid (becV l = if l = 2 then 1 else if l = 4 then 2 else 0) := hid rfl
  by_cases h2 : l = 2
  · subst h2
    go_enter Tryz.func122, Tryz.ntmps122
    go_wp2
    go_ret
    exact ⟨rfl, rfl⟩
  by_cases h4 : l = 4
  · subst h4
    go_enter Tryz.func122, Tryz.ntmps122
    go_wp2
    go_ret
    exact ⟨rfl, rfl⟩
  rw [if_neg h2, if_neg h4] at HX
  have k2 : (l == 2) = false := by simpa using h2
  have k4 : (l == 4) = false := by simpa using h4
  go_enter Tryz.func122, Tryz.ntmps122
  go_wp2
  go_ret
  exact ⟨ret_int HX.out.symm, rfl⟩
theorem putsInT (w : World) (l : Int) : Calls Tryz.prog 123 #[.int .i64 l] w fun e w' => e = .returned (.int .i64 (putV l)) ∧ w' = w := by
  have HX : Hid (putV l = if l = 2 ∨ l = 3 then 8 else 7) := hid rfl
  by_cases h2 : l = 2
  · subst h2
    go_enter Tryz.func123, Tryz.ntmps123
    go_wp2
    go_ret
    exact ⟨rfl, rfl⟩
  by_cases h3 : l = 3
  · subst h3
    go_enter Tryz.func123, Tryz.ntmps123
    go_wp2
    go_ret
    exact ⟨rfl, rfl⟩
  rw [if_neg (by omega)] at HX
  have k2 : (l == 2) = false := by simpa using h2
  have k4 : (l == 3) = false := by simpa using h3
  go_enter Tryz.func123, Tryz.ntmps123
  go_wp2
  go_ret
  exact ⟨ret_int HX.out.symm, rfl⟩
theorem layRowT (w : World) (base p : Nat) (l : List IN) (f : FT) (hf : FOk f) (hL : LyR w base p l) (hn : l.length ≤ 4000000) : Calls Tryz.prog 77 #[.pointer (some ⟨p, 0, none⟩), .agg #[.string (strOfNums f.name), .int .i64 f.num, .int .i64 f.kind, .int .i64 f.ref, .int .i64 f.lab, .int .i64 f.one, .int .i64 f.key]] w fun e w' => e = .returned (.tuple #[]) ∧ LyR w' base p (l ++ rowL f) ∧ LF base p w w' := by
  have HL := hid hL
  obtain ⟨r1, r2⟩ := hf.ref
  clear hL
  by_cases h16 : f.kind = 16
  · have HX : Hid (rowL f = [insV 11 [f.num, 16, f.ref + 1]]) := hid (by unfold rowL; rw [if_pos h16, h16])
    rw [h16]
    go_enter Tryz.func77, Tryz.ntmps77
    go_wp2_with fail
    refine (layN _ base p l 11 [f.num, 16, f.ref + 1] (by simp) _ (Blk.newAt (by simp)) (HL.out.kept (by exact blBy)) hn).mono ?_
    rintro e w1 ⟨rfl, h1, h2⟩
    rw [← HX.out] at h1
    go_wp2
    go_end0
    exact ⟨rfl, h1, h2.pre (by exact blBy)⟩
  · have HX : Hid (rowL f = [insV 11 [f.num, f.kind, 0]]) := hid (by unfold rowL; rw [if_neg h16])
    have k : (f.kind == 16) = false := by simpa using h16
    go_enter Tryz.func77, Tryz.ntmps77
    go_wp2_with fail
    refine (layN _ base p l 11 [f.num, f.kind, 0] (by simp) _ (Blk.newAt (by simp)) (HL.out.kept (by exact blBy)) hn).mono ?_
    rintro e w1 ⟨rfl, h1, h2⟩
    rw [← HX.out] at h1
    go_wp2
    go_end0
    exact ⟨rfl, h1, h2.pre (by exact blBy)⟩
theorem layClearT (w : World) (base p : Nat) (l : List IN) (fs : List FT) (f : FT) (nm : List Int) (en : Bool) (fa : Option Addr) (fc : Nat) (ov sv rv : Value) (hx : RowS w (· < base) 7 (.slice fa fs.length fc) fs.length (fs.flatMap cFT)) (hL : LyR w base p l) (hn : l.length + fs.length ≤ 3999990) (ho : ov.oneCell' = true) (hs : sv.oneCell' = true) (hr : rv.oneCell' = true) : Calls Tryz.prog 121 #[.pointer (some ⟨p, 0, none⟩), .agg #[.string (strOfNums nm), .bool en, .slice fa fs.length fc, ov, sv, rv], .agg #[.string (strOfNums f.name), .int .i64 f.num, .int .i64 f.kind, .int .i64 f.ref, .int .i64 f.lab, .int .i64 f.one, .int .i64 f.key]] w fun e w' => e = .returned (.tuple #[]) ∧ LyR w' base p (l ++ clrL fs f) ∧ LF base p w w' := by
  have HL := hid hL
  have HR := hid hx
  clear hL hx
  by_cases h4 : f.lab = 4
  case neg =>
    have HX : Hid (clrL fs f = []) := hid (by unfold clrL; rw [if_neg h4])
    have k : (f.lab == 4) = false := by simpa using h4
    go_enter Tryz.func121, Tryz.ntmps121
    go_wp2
    (try simp only [Exit.inBlock, Exit.then])
    refine bodyPost_ret (results_none rfl _ _ _) rfl ?_
    exact ⟨rfl, by rw [HX.out, List.append_nil]; exact HL.out.kept (by exact blBy), LF.ofBelow (by exact blBy)⟩
  have HX : Hid (clrL fs f = (fs.filter (clrP f)).map clrS) := hid (by unfold clrL; rw [if_pos h4])
  rw [h4]
  go_enter Tryz.func121, Tryz.ntmps121
  go_wp2_with fail
  have HB : Hid (base ≤ w.heap.size ∧ p < w.heap.size) := hid ⟨by have := HL.out.1; have := HL.out.lt; omega, HL.out.lt⟩
  go_loopw [14] (fun r wr => ∃ j : Nat, r = .int .i64 j ∧ j ≤ fs.length ∧ Hid (LyR wr base p (l ++ ((fs.take j).filter (clrP f)).map clrS)) ∧ Hid (LF base p w wr) ∧ Hid (Blk wr (w.heap.size + 1) 55 #[.string (strOfNums f.name), .int .i64 f.num, .int .i64 f.kind, .int .i64 f.ref, .int .i64 4, .int .i64 f.one, .int .i64 f.key])) (fun r wr => fs.length - numAt wr r)
  case atStart => exact ⟨0, rfl, by omega, hid (by simpa using HL.out.kept (by exact blBy)), hid (LF.ofBelow (by exact blBy)), hid (Blk.newAt (by simp))⟩
  case round =>
    obtain ⟨j, rfl, hj, h1, g1, B1⟩ := hrel
    by_cases hlt : j < fs.length
    · have h2 : (j : Int) < (fs.length : Int) := by omega
      have h63 : (fs.length : Int) ≤ 9223372036854775807 := by omega
      obtain ⟨fb, fo, rfl, hc⟩ := rowAt (g := cFT) (fun _ => rfl) (HR.out.keep (g1.out.keep HB.out.1) (fun _ h => h)) (i := j) (x := fs[j]) (by simp [hlt])
      have c0 := hc 0 _ rfl
      have c1 := hc 1 _ rfl
      have c2 := hc 2 _ rfl
      have c3 := hc 3 _ rfl
      have c4 := hc 4 _ rfl
      have c5 := hc 5 _ rfl
      have c6 := hc 6 _ rfl
      clear hc
      simp only [Nat.add_zero] at c0
      have hfb : fb < wr.heap.size := World.block_lt_of_cell? _ _ c0
      have HTK : Hid ((fs.take (j + 1)).filter (clrP f) = (fs.take j).filter (clrP f) ++ (if clrP f fs[j] = true then [fs[j]] else [])) := hid (by rw [List.take_succ_eq_append_getElem hlt, List.filter_append]; congr 1; simp only [List.filter_cons, List.filter_nil])
      have HLN : Hid ((l ++ ((fs.take j).filter (clrP f)).map clrS).length ≤ 4000000) := hid (by
        have := List.length_filter_le (clrP f) (fs.take j)
        simp only [List.length_append, List.length_map]
        rw [List.length_take] at this
        omega)
      generalize fs[j] = o at *
      have xf := B1.out.cellF
      have zf := B1.out.lt
      by_cases q4 : o.lab = 4
      case neg =>
        have k4 : (o.lab == 4) = false := by simpa using q4
        have HP : Hid (clrP f o = false) := hid (by simp [clrP, q4])
        go_wp2
        exact ⟨⟨j + 1, by simp, by omega, hid (by rw [HTK.out, HP.out]; simpa using h1.out.kept (below_alloc _)), hid (g1.out.trans (LF.ofBelow (below_alloc _))), hid (B1.out.kept (below_alloc _))⟩, by simp [numAt]; omega⟩
      by_cases q5 : o.one = f.one
      case neg =>
        have k4 : (o.lab == 4) = true := by simpa using q4
        have k5 : (o.one == f.one) = false := by simpa using q5
        have HP : Hid (clrP f o = false) := hid (by simp [clrP, q5])
        clear q4 q5
        go_wp2
        exact ⟨⟨j + 1, by simp, by omega, hid (by rw [HTK.out, HP.out]; simpa using h1.out.kept (below_alloc _)), hid (g1.out.trans (LF.ofBelow (below_alloc _))), hid (B1.out.kept (below_alloc _))⟩, by simp [numAt]; omega⟩
      have k4 : (o.lab == 4) = true := by simpa using q4
      have k5 : (o.one == f.one) = true := by simpa using q5
      have HP : Hid (clrP f o = true) := hid (by simp [clrP, q4, q5])
      clear q4 q5
      go_wp2_with fail
      refine (layN _ base p _ 9 [o.num] (by simp) _ (Blk.newAt (by simp)) (h1.out.kept (by exact blBy)) HLN.out).mono ?_
      rintro e w1 ⟨rfl, h3, g3⟩
      replace g3 : LF base p wr w1 := g3.pre (by exact blBy)
      go_wp2
      exact ⟨⟨j + 1, by simp, by omega, hid (by rw [HTK.out, HP.out]; simpa [clrS] using h3), hid (g1.out.trans g3), hid (B1.out.lf g3 (by have := HB.out.2; omega) (by decide))⟩, by simp [numAt]; omega⟩
    · have h2 : ¬ (j : Int) < (fs.length : Int) := by omega
      have e1 : fs.take j = fs := List.take_of_length_le (by omega)
      rw [e1, ← HX.out] at h1
      go_wp2
      go_end0
      exact ⟨rfl, h1.out, g1.out⟩
theorem clrL_len (fs : List FT) (f : FT) : (clrL fs f).length ≤ fs.length := by
  unfold clrL
  split
  · rw [List.length_map]; exact List.length_filter_le _ _
  · simp
theorem layValueT (w : World) (base p : Nat) (l : List IN) (f : FT) (fs : List FT) (nm : List Int) (en : Bool) (fa oa sa ra : Option Addr) (fc on oc sn sc rn rc : Nat) (hx : RowS w (· < base) 7 (.slice fa fs.length fc) fs.length (fs.flatMap cFT)) (hL : LyR w base p l) (hn : l.length + fs.length ≤ 3999980) : Calls Tryz.prog 74 #[.pointer (some ⟨p, 0, none⟩), .agg #[.string (strOfNums nm), .bool en, .slice fa fs.length fc, .slice oa on oc, .slice sa sn sc, .slice ra rn rc], .agg #[.string (strOfNums f.name), .int .i64 f.num, .int .i64 f.kind, .int .i64 f.ref, .int .i64 f.lab, .int .i64 f.one, .int .i64 f.key]] w fun e w' => e = .returned (.tuple #[]) ∧ LyR w' base p (l ++ valL fs f) ∧ LF base p w w' := by
  have HL := hid hL
  have HR := hid hx
  have HB : Hid (base ≤ w.heap.size ∧ p < w.heap.size) := hid ⟨by have := hL.1; have := hL.lt; omega, hL.lt⟩
  have HN := hid hn
  clear hL hx hn
  by_cases h5 : f.lab = 5
  · have HX : Hid (valL fs f = [insV 12 [f.num, f.key, f.kind, f.ref]]) := hid (by unfold valL; rw [if_pos h5])
    have k5 : (f.lab == 5) = true := by simpa using h5
    clear h5
    go_enter Tryz.func74, Tryz.ntmps74
    go_wp2_with fail
    refine (layN _ base p l 12 [f.num, f.key, f.kind, f.ref] (by simp) _ (Blk.newAt (by simp)) (HL.out.kept (by exact blBy)) (by have := HN.out; omega)).mono ?_
    rintro e w1 ⟨rfl, h1, h2⟩
    rw [← HX.out] at h1
    go_wp2
    go_end0
    exact ⟨rfl, h1, h2.pre (by exact blBy)⟩
  have k5 : (f.lab == 5) = false := by simpa using h5
  have Bx : Hid (Blk ((w.alloc (.cells #[.string (strOfNums nm), .bool en, .slice fa fs.length fc, .slice oa on oc, .slice sa sn sc, .slice ra rn rc] 53)).alloc (.cells #[.string (strOfNums f.name), .int .i64 f.num, .int .i64 f.kind, .int .i64 f.ref, .int .i64 f.lab, .int .i64 f.one, .int .i64 f.key] 55)) w.heap.size 53 #[.string (strOfNums nm), .bool en, .slice fa fs.length fc, .slice oa on oc, .slice sa sn sc, .slice ra rn rc]) := hid ((Blk.new _ _ _).kept (below_alloc _))
  have Bf : Hid (Blk ((w.alloc (.cells #[.string (strOfNums nm), .bool en, .slice fa fs.length fc, .slice oa on oc, .slice sa sn sc, .slice ra rn rc] 53)).alloc (.cells #[.string (strOfNums f.name), .int .i64 f.num, .int .i64 f.kind, .int .i64 f.ref, .int .i64 f.lab, .int .i64 f.one, .int .i64 f.key] 55)) (w.heap.size + 1) 55 #[.string (strOfNums f.name), .int .i64 f.num, .int .i64 f.kind, .int .i64 f.ref, .int .i64 f.lab, .int .i64 f.one, .int .i64 f.key]) := hid (Blk.newAt (by simp))
  have HC := hid (clrL_len fs f)
  by_cases h17 : f.kind = 17
  · have HX : Hid (valL fs f = clrL fs f ++ [insV 10 [f.num, f.ref, becV f.lab]]) := hid (by unfold valL; rw [if_neg h5, if_pos h17])
    have k17 : (f.kind == 17) = true := by simpa using h17
    have HBE := hid (becomesT · f.lab)
    clear h5 h17
    go_enter Tryz.func74, Tryz.ntmps74
    go_wp2_with fail
    refine (layClearT _ base p l fs f nm en fa fc _ _ _ (HR.out.keep (f := fun _ => True) (Keep.ofBelow (by exact blBy)) (fun _ _ => trivial)) (HL.out.kept (by exact blBy)) (by have := HN.out; omega) rfl rfl rfl).mono ?_
    rintro e w1 ⟨rfl, h1, g1⟩
    replace Bx := hid (Bx.out.lf g1 (by have := HB.out; omega) (by decide))
    replace Bf := hid (Bf.out.lf g1 (by have := HB.out; omega) (by decide))
    replace h1 := hid h1
    replace g1 := hid (g1.pre (w := w) (by exact blBy))
    have xf := Bf.out.cellF
    have zf := Bf.out.lt
    have e1 := Bf.out.cell 1 _ rfl
    have e2 := Bf.out.cell 3 _ rfl
    have e3 := Bf.out.cell 4 _ rfl
    clear xf
    have HLA := hid (layB 10 [f.num, f.ref, becV f.lab] (by simp) h1.out (by have := HN.out; have := HC.out; simp only [List.length_append, List.length_cons, List.length_nil]; omega))
    go_wp2_with fail
    go_region_held3 (fun W => W.cell? ⟨w.heap.size + 1, 1, none⟩ = some (.int .i64 f.num) ∧ W.cell? ⟨w.heap.size + 1, 3, none⟩ = some (.int .i64 f.ref) ∧ W.cell? ⟨w.heap.size + 1, 4, none⟩ = some (.int .i64 f.lab)) (first | exact ⟨e1, e2, e3⟩ | exact ⟨cell_below e1 (bl_drew (below_alloc _)), cell_below e2 (bl_drew (below_alloc _)), cell_below e3 (bl_drew (below_alloc _))⟩) (first | (go_at_call 122; refine (HBE.out _).mono ?_; rintro e w2 ⟨rfl, rfl⟩) | (go_at_call 70; refine (HLA.out _ _ (bl_drew (below_alloc _)) ((Blk.new _ _ _).kept (below_drew1 _))).mono ?_; rintro e w5 ⟨rfl, h5, g5⟩; replace e1 := (Bf.out.lf g5 (by have := HB.out; omega) (by decide)).cell 1 _ rfl; replace e2 := (Bf.out.lf g5 (by have := HB.out; omega) (by decide)).cell 3 _ rfl; replace e3 := (Bf.out.lf g5 (by have := HB.out; omega) (by decide)).cell 4 _ rfl))
    rw [List.append_assoc, ← HX.out] at h5
    go_wp2
    go_end0
    exact ⟨rfl, h5, g1.out.trans g5⟩
  have k17 : (f.kind == 17) = false := by simpa using h17
  have HPU := hid (putsInT · f.lab)
  have HLR : Hid (∀ W, Below w.heap.size w W → Calls Tryz.prog 70 #[.pointer (some ⟨p, 0, none⟩), .int .i64 5, .slice (some ⟨w.heap.size + 1 + 1, 0, none⟩) 1 1] (((w.alloc (.cells #[.string (strOfNums nm), .bool en, .slice fa fs.length fc, .slice oa on oc, .slice sa sn sc, .slice ra rn rc] 53)).alloc (.cells #[.string (strOfNums f.name), .int .i64 f.num, .int .i64 f.kind, .int .i64 f.ref, .int .i64 f.lab, .int .i64 f.one, .int .i64 f.key] 55)).alloc (.cells #[.int .i64 f.kind] 3)) fun e w' => e = .returned (.tuple #[]) ∧ LyR w' base p (l ++ [insV 5 [f.kind]]) ∧ LF base p ((w.alloc (.cells #[.string (strOfNums nm), .bool en, .slice fa fs.length fc, .slice oa on oc, .slice sa sn sc, .slice ra rn rc] 53)).alloc (.cells #[.string (strOfNums f.name), .int .i64 f.num, .int .i64 f.kind, .int .i64 f.ref, .int .i64 f.lab, .int .i64 f.one, .int .i64 f.key] 55)) w') := hid fun W hW => (layN _ base p l 5 [f.kind] (by simp) _ (Blk.newAt (by simp)) (HL.out.kept (by exact blBy)) (by have := HN.out; omega)).mono fun e w1 ⟨a, b, c⟩ => ⟨a, b, c.pre (below_alloc _)⟩
  by_cases h16 : f.kind = 16
  · have HX : Hid (valL fs f = [insV 5 [f.kind]] ++ [insV 6 [f.ref]] ++ clrL fs f ++ [insV (putV f.lab) [f.num]]) := hid (by unfold valL; rw [if_neg h5, if_neg h17, if_pos h16])
    have k16 : (f.kind == 16) = true := by simpa using h16
    clear h5 h17 h16
    go_enter Tryz.func74, Tryz.ntmps74
    go_wp2_with fail
    refine (HLR.out w (Below.refl _ _)).mono ?_
    rintro e w1 ⟨rfl, h1, g1⟩
    replace Bx := hid (Bx.out.lf g1 (by have := HB.out; omega) (by decide))
    replace Bf := hid (Bf.out.lf g1 (by have := HB.out; omega) (by decide))
    replace h1 := hid h1
    replace g1 := hid (g1.pre (w := w) (by exact blBy))
    have xf := Bf.out.cellF
    have zf := Bf.out.lt
    have xx := Bx.out.cellF
    have zx := Bx.out.lt
    go_wp2_with fail
    refine (layN _ base p _ 6 [f.ref] (by simp) _ (Blk.newAt (by simp)) (h1.out.kept (by exact blBy)) (by have := HN.out; simp; omega)).mono ?_
    rintro e w2 ⟨rfl, h2, g2⟩
    replace g2 := g2.pre (w := w1) (by exact blBy)
    replace Bx := hid (Bx.out.lf g2 (by have := HB.out; omega) (by decide))
    replace Bf := hid (Bf.out.lf g2 (by have := HB.out; omega) (by decide))
    replace h2 := hid h2
    replace g2 := hid (g1.out.trans g2)
    clear h1 g1 xf zf xx zx
    have xf := Bf.out.cellF
    have zf := Bf.out.lt
    have xx := Bx.out.cellF
    have zx := Bx.out.lt
    go_wp2_with fail
    refine (layClearT _ base p _ fs f nm en fa fc _ _ _ (HR.out.keep (g2.out.keep HB.out.1) (fun _ h => h)) h2.out (by have := HN.out; simp; omega) rfl rfl rfl).mono ?_
    rintro e w3 ⟨rfl, h3, g3⟩
    replace Bx := hid (Bx.out.lf g3 (by have := HB.out; omega) (by decide))
    replace Bf := hid (Bf.out.lf g3 (by have := HB.out; omega) (by decide))
    replace h3 := hid h3
    replace g3 := hid (g2.out.trans g3)
    clear h2 g2 xf zf xx zx
    have xf := Bf.out.cellF
    have zf := Bf.out.lt
    have e1 := Bf.out.cell 1 _ rfl
    have e2 := Bf.out.cell 2 _ rfl
    have e3 := Bf.out.cell 4 _ rfl
    clear xf
    have HLA := hid (layB (putV f.lab) [f.num] (by simp) h3.out (by have := HN.out; have := HC.out; simp only [List.length_append, List.length_cons, List.length_nil]; omega))
    go_wp2_with fail
    go_region_held3 (fun W => W.cell? ⟨w.heap.size + 1, 1, none⟩ = some (.int .i64 f.num) ∧ W.cell? ⟨w.heap.size + 1, 2, none⟩ = some (.int .i64 f.kind) ∧ W.cell? ⟨w.heap.size + 1, 4, none⟩ = some (.int .i64 f.lab)) (first | exact ⟨e1, e2, e3⟩ | exact ⟨cell_below e1 (bl_drew (below_alloc _)), cell_below e2 (bl_drew (below_alloc _)), cell_below e3 (bl_drew (below_alloc _))⟩) (first | (go_at_call 123; refine (HPU.out _).mono ?_; rintro e w2 ⟨rfl, rfl⟩) | (go_at_call 70; refine (HLA.out _ _ (bl_drew (below_alloc _)) ((Blk.new _ _ _).kept (below_drew1 _))).mono ?_; rintro e w5 ⟨rfl, h5, g5⟩; replace e1 := (Bf.out.lf g5 (by have := HB.out; omega) (by decide)).cell 1 _ rfl; replace e2 := (Bf.out.lf g5 (by have := HB.out; omega) (by decide)).cell 2 _ rfl; replace e3 := (Bf.out.lf g5 (by have := HB.out; omega) (by decide)).cell 4 _ rfl))
    all_goals
      replace h5 : LyR w5 base p (l ++ valL fs f) := by rw [HX.out]; simpa using h5
      go_wp2
      go_end0
      exact ⟨rfl, h5, g3.out.trans g5⟩
  · have HX : Hid (valL fs f = [insV 5 [f.kind]] ++ clrL fs f ++ [insV (putV f.lab) [f.num]]) := hid (by unfold valL; rw [if_neg h5, if_neg h17, if_neg h16]; simp)
    have k16 : (f.kind == 16) = false := by simpa using h16
    clear h5 h17 h16
    go_enter Tryz.func74, Tryz.ntmps74
    go_wp2_with fail
    refine (HLR.out w (Below.refl _ _)).mono ?_
    rintro e w2 ⟨rfl, h2, g2⟩
    replace Bx := hid (Bx.out.lf g2 (by have := HB.out; omega) (by decide))
    replace Bf := hid (Bf.out.lf g2 (by have := HB.out; omega) (by decide))
    replace h2 := hid h2
    replace g2 := hid (g2.pre (w := w) (by exact blBy))
    have xf := Bf.out.cellF
    have zf := Bf.out.lt
    have xx := Bx.out.cellF
    have zx := Bx.out.lt
    go_wp2_with fail
    refine (layClearT _ base p _ fs f nm en fa fc _ _ _ (HR.out.keep (g2.out.keep HB.out.1) (fun _ h => h)) h2.out (by have := HN.out; simp; omega) rfl rfl rfl).mono ?_
    rintro e w3 ⟨rfl, h3, g3⟩
    replace Bx := hid (Bx.out.lf g3 (by have := HB.out; omega) (by decide))
    replace Bf := hid (Bf.out.lf g3 (by have := HB.out; omega) (by decide))
    replace h3 := hid h3
    replace g3 := hid (g2.out.trans g3)
    clear h2 g2 xf zf xx zx
    have xf := Bf.out.cellF
    have zf := Bf.out.lt
    have e1 := Bf.out.cell 1 _ rfl
    have e2 := Bf.out.cell 2 _ rfl
    have e3 := Bf.out.cell 4 _ rfl
    clear xf
    have HLA := hid (layB (putV f.lab) [f.num] (by simp) h3.out (by have := HN.out; have := HC.out; simp only [List.length_append, List.length_cons, List.length_nil]; omega))
    go_wp2_with fail
    go_region_held3 (fun W => W.cell? ⟨w.heap.size + 1, 1, none⟩ = some (.int .i64 f.num) ∧ W.cell? ⟨w.heap.size + 1, 2, none⟩ = some (.int .i64 f.kind) ∧ W.cell? ⟨w.heap.size + 1, 4, none⟩ = some (.int .i64 f.lab)) (first | exact ⟨e1, e2, e3⟩ | exact ⟨cell_below e1 (bl_drew (below_alloc _)), cell_below e2 (bl_drew (below_alloc _)), cell_below e3 (bl_drew (below_alloc _))⟩) (first | (go_at_call 123; refine (HPU.out _).mono ?_; rintro e w2 ⟨rfl, rfl⟩) | (go_at_call 70; refine (HLA.out _ _ (bl_drew (below_alloc _)) ((Blk.new _ _ _).kept (below_drew1 _))).mono ?_; rintro e w5 ⟨rfl, h5, g5⟩; replace e1 := (Bf.out.lf g5 (by have := HB.out; omega) (by decide)).cell 1 _ rfl; replace e2 := (Bf.out.lf g5 (by have := HB.out; omega) (by decide)).cell 2 _ rfl; replace e3 := (Bf.out.lf g5 (by have := HB.out; omega) (by decide)).cell 4 _ rfl))
    all_goals
      replace h5 : LyR w5 base p (l ++ valL fs f) := by rw [HX.out]; simpa using h5
      go_wp2
      go_end0
      exact ⟨rfl, h5, g3.out.trans g5⟩
theorem valueWireT (w : World) (f : FT) (hf : FOk f) : Calls Tryz.prog 71 #[.agg #[.string (strOfNums f.name), .int .i64 f.num, .int .i64 f.kind, .int .i64 f.ref, .int .i64 f.lab, .int .i64 f.one, .int .i64 f.key]] w fun e w' => e = .returned (.tuple #[.int .i64 (wireV f), .int .i64 0]) ∧ Below w.heap.size w w' := by
  have HK := hid (wireKW f.kind)
  have HE : Hid (kwireE f.kind = 0) := hid (by unfold kwireE; rw [if_pos hf.kind])
  rw [HE.out] at HK
  by_cases h5 : f.lab = 5
  · have HX : Hid (wireV f = 2) := hid (by unfold wireV; rw [if_pos h5])
    have k5 : (f.lab == 5) = true := by simpa using h5
    clear h5
    go_enter Tryz.func71, Tryz.ntmps71
    go_wp2
    go_ret2
    exact ⟨ret_ii HX.out.symm rfl, by exact blBy⟩
  · have HX : Hid (wireV f = max (kwire f.kind) 0) := hid (by unfold wireV; rw [if_neg h5])
    have k5 : (f.lab == 5) = false := by simpa using h5
    clear h5
    generalize max (kwire f.kind) 0 = kw at *
    go_enter Tryz.func71, Tryz.ntmps71
    go_wp2_with (first | (go_at_call 119; refine (HK.out _).mono ?_; rintro e w1 ⟨rfl, rfl⟩))
    go_ret2
    exact ⟨ret_ii HX.out.symm rfl, by exact blBy⟩
theorem wireV_le (f : FT) (hf : FOk f) : 0 ≤ wireV f ∧ wireV f < 8 := by
  unfold wireV kwire
  have := hf.kind
  split
  · omega
  · split
    · omega
    · split
      · omega
      · split
        · omega
        · split <;> omega
theorem layWrittenT (w : World) (base p : Nat) (l : List IN) (f : FT) (hf : FOk f) (hL : LyR w base p l) (hn : l.length ≤ 3999990) : Calls Tryz.prog 79 #[.pointer (some ⟨p, 0, none⟩), .agg #[.string (strOfNums f.name), .int .i64 f.num, .int .i64 f.kind, .int .i64 f.ref, .int .i64 f.lab, .int .i64 f.one, .int .i64 f.key]] w fun e w' => e = .returned (.tuple #[]) ∧ LyR w' base p (l ++ wrtL f) ∧ LF base p w w' := by
  have HV := hid (valueWireT · f hf)
  have HT := hid (tagT · f.num (wireV f) hf.num (wireV_le f hf))
  have HT2 := hid (tagT · f.num 2 hf.num (by decide))
  have HL := hid hL
  have HN := hid hn
  have HB : Hid (base ≤ w.heap.size ∧ p < w.heap.size) := hid ⟨by have := hL.1; have := hL.lt; omega, hL.lt⟩
  have HLB := hf.lab
  have hlab : f.lab = 0 ∨ f.lab = 1 ∨ f.lab = 4 ∨ f.lab = 2 ∨ f.lab = 3 ∨ f.lab = 5 := by omega
  clear hf hL hn HLB
  rcases hlab with h0 | hlab
  · have HX : Hid (wrtL f = [insV 17 [tagV f.num (wireV f)], if f.kind = 17 then insV 19 [f.ref] else insV 18 [f.kind]]) := hid (by unfold wrtL; rw [if_neg (by omega), if_neg (by omega), if_neg (by omega)])
    rw [h0] at HV ⊢
    go_enter Tryz.func79, Tryz.ntmps79
    go_wp2_with fail
    refine (HV.out _).mono ?_
    rintro e w1 ⟨rfl, hb1⟩
    have Bf : Blk w1 w.heap.size 55 #[.string (strOfNums f.name), .int .i64 f.num, .int .i64 f.kind, .int .i64 f.ref, .int .i64 0, .int .i64 f.one, .int .i64 f.key] := (Blk.new _ _ _).kept hb1
    replace hb1 : Hid (Below w.heap.size w w1) := hid (bl_then (by exact blBy) hb1)
    have H1 : Hid (LyR w1 base p l) := hid (HL.out.kept hb1.out)
    have xf := Bf.cellF
    have zf := Bf.lt
    replace Bf := hid Bf
    go_wp2_with (first | (go_at_call 120; refine (HT.out _).mono ?_; rintro e w2 ⟨rfl, rfl⟩))
    refine (layA 17 [tagV f.num (wireV f)] (by simp) H1.out (by have := HN.out; omega) _ (by exact blBy)).mono ?_
    rintro e w3 ⟨rfl, h3, g3⟩
    replace Bf := hid (Bf.out.lf g3 (by have := HB.out; omega) (by decide))
    replace g3 := hid (g3.pre hb1.out)
    clear xf zf
    have xf := Bf.out.cellF
    have zf := Bf.out.lt
    have H3 := hid h3
    clear h3
    by_cases h17 : f.kind = 17
    · have k17 : (f.kind == 17) = true := by simpa using h17
      rw [if_pos h17] at HX
      clear h17
      go_wp2_with fail
      refine (layA 19 [f.ref] (by simp) H3.out (by have := HN.out; simp; omega) _ (by exact blBy)).mono ?_
      rintro e w4 ⟨rfl, h4, g4⟩
      replace h4 : LyR w4 base p (l ++ wrtL f) := by rw [HX.out]; simpa using h4
      go_wp2
      go_end0
      exact ⟨rfl, h4, g3.out.trans g4⟩
    · have k17 : (f.kind == 17) = false := by simpa using h17
      rw [if_neg h17] at HX
      clear h17
      go_wp2_with fail
      refine (layA 18 [f.kind] (by simp) H3.out (by have := HN.out; simp; omega) _ (by exact blBy)).mono ?_
      rintro e w4 ⟨rfl, h4, g4⟩
      replace h4 : LyR w4 base p (l ++ wrtL f) := by rw [HX.out]; simpa using h4
      go_wp2
      go_end0
      exact ⟨rfl, h4, g3.out.trans g4⟩
  rcases hlab with h1 | hlab
  · have HX : Hid (wrtL f = [insV 17 [tagV f.num (wireV f)], if f.kind = 17 then insV 19 [f.ref] else insV 18 [f.kind]]) := hid (by unfold wrtL; rw [if_neg (by omega), if_neg (by omega), if_neg (by omega)])
    rw [h1] at HV ⊢
    go_enter Tryz.func79, Tryz.ntmps79
    go_wp2_with fail
    refine (HV.out _).mono ?_
    rintro e w1 ⟨rfl, hb1⟩
    have Bf : Blk w1 w.heap.size 55 #[.string (strOfNums f.name), .int .i64 f.num, .int .i64 f.kind, .int .i64 f.ref, .int .i64 1, .int .i64 f.one, .int .i64 f.key] := (Blk.new _ _ _).kept hb1
    replace hb1 : Hid (Below w.heap.size w w1) := hid (bl_then (by exact blBy) hb1)
    have H1 : Hid (LyR w1 base p l) := hid (HL.out.kept hb1.out)
    have xf := Bf.cellF
    have zf := Bf.lt
    replace Bf := hid Bf
    go_wp2_with (first | (go_at_call 120; refine (HT.out _).mono ?_; rintro e w2 ⟨rfl, rfl⟩))
    refine (layA 17 [tagV f.num (wireV f)] (by simp) H1.out (by have := HN.out; omega) _ (by exact blBy)).mono ?_
    rintro e w3 ⟨rfl, h3, g3⟩
    replace Bf := hid (Bf.out.lf g3 (by have := HB.out; omega) (by decide))
    replace g3 := hid (g3.pre hb1.out)
    clear xf zf
    have xf := Bf.out.cellF
    have zf := Bf.out.lt
    have H3 := hid h3
    clear h3
    by_cases h17 : f.kind = 17
    · have k17 : (f.kind == 17) = true := by simpa using h17
      rw [if_pos h17] at HX
      clear h17
      go_wp2_with fail
      refine (layA 19 [f.ref] (by simp) H3.out (by have := HN.out; simp; omega) _ (by exact blBy)).mono ?_
      rintro e w4 ⟨rfl, h4, g4⟩
      replace h4 : LyR w4 base p (l ++ wrtL f) := by rw [HX.out]; simpa using h4
      go_wp2
      go_end0
      exact ⟨rfl, h4, g3.out.trans g4⟩
    · have k17 : (f.kind == 17) = false := by simpa using h17
      rw [if_neg h17] at HX
      clear h17
      go_wp2_with fail
      refine (layA 18 [f.kind] (by simp) H3.out (by have := HN.out; simp; omega) _ (by exact blBy)).mono ?_
      rintro e w4 ⟨rfl, h4, g4⟩
      replace h4 : LyR w4 base p (l ++ wrtL f) := by rw [HX.out]; simpa using h4
      go_wp2
      go_end0
      exact ⟨rfl, h4, g3.out.trans g4⟩
  rcases hlab with h4 | hlab
  · have HX : Hid (wrtL f = [insV 17 [tagV f.num (wireV f)], if f.kind = 17 then insV 19 [f.ref] else insV 18 [f.kind]]) := hid (by unfold wrtL; rw [if_neg (by omega), if_neg (by omega), if_neg (by omega)])
    rw [h4] at HV ⊢
    go_enter Tryz.func79, Tryz.ntmps79
    go_wp2_with fail
    refine (HV.out _).mono ?_
    rintro e w1 ⟨rfl, hb1⟩
    have Bf : Blk w1 w.heap.size 55 #[.string (strOfNums f.name), .int .i64 f.num, .int .i64 f.kind, .int .i64 f.ref, .int .i64 4, .int .i64 f.one, .int .i64 f.key] := (Blk.new _ _ _).kept hb1
    replace hb1 : Hid (Below w.heap.size w w1) := hid (bl_then (by exact blBy) hb1)
    have H1 : Hid (LyR w1 base p l) := hid (HL.out.kept hb1.out)
    have xf := Bf.cellF
    have zf := Bf.lt
    replace Bf := hid Bf
    go_wp2_with (first | (go_at_call 120; refine (HT.out _).mono ?_; rintro e w2 ⟨rfl, rfl⟩))
    refine (layA 17 [tagV f.num (wireV f)] (by simp) H1.out (by have := HN.out; omega) _ (by exact blBy)).mono ?_
    rintro e w3 ⟨rfl, h3, g3⟩
    replace Bf := hid (Bf.out.lf g3 (by have := HB.out; omega) (by decide))
    replace g3 := hid (g3.pre hb1.out)
    clear xf zf
    have xf := Bf.out.cellF
    have zf := Bf.out.lt
    have H3 := hid h3
    clear h3
    by_cases h17 : f.kind = 17
    · have k17 : (f.kind == 17) = true := by simpa using h17
      rw [if_pos h17] at HX
      clear h17
      go_wp2_with fail
      refine (layA 19 [f.ref] (by simp) H3.out (by have := HN.out; simp; omega) _ (by exact blBy)).mono ?_
      rintro e w4 ⟨rfl, h4, g4⟩
      replace h4 : LyR w4 base p (l ++ wrtL f) := by rw [HX.out]; simpa using h4
      go_wp2
      go_end0
      exact ⟨rfl, h4, g3.out.trans g4⟩
    · have k17 : (f.kind == 17) = false := by simpa using h17
      rw [if_neg h17] at HX
      clear h17
      go_wp2_with fail
      refine (layA 18 [f.kind] (by simp) H3.out (by have := HN.out; simp; omega) _ (by exact blBy)).mono ?_
      rintro e w4 ⟨rfl, h4, g4⟩
      replace h4 : LyR w4 base p (l ++ wrtL f) := by rw [HX.out]; simpa using h4
      go_wp2
      go_end0
      exact ⟨rfl, h4, g3.out.trans g4⟩
  rcases hlab with h2 | hlab
  · have HX : Hid (wrtL f = [insV 20 [tagV f.num (wireV f), f.kind, f.ref]]) := hid (by unfold wrtL; rw [if_neg (by omega), if_neg (by omega), if_pos h2])
    rw [h2] at HV ⊢
    go_enter Tryz.func79, Tryz.ntmps79
    go_wp2_with fail
    refine (HV.out _).mono ?_
    rintro e w1 ⟨rfl, hb1⟩
    have Bf : Blk w1 w.heap.size 55 #[.string (strOfNums f.name), .int .i64 f.num, .int .i64 f.kind, .int .i64 f.ref, .int .i64 2, .int .i64 f.one, .int .i64 f.key] := (Blk.new _ _ _).kept hb1
    replace hb1 : Hid (Below w.heap.size w w1) := hid (bl_then (by exact blBy) hb1)
    have H1 : Hid (LyR w1 base p l) := hid (HL.out.kept hb1.out)
    have xf := Bf.cellF
    have zf := Bf.lt
    replace Bf := hid Bf
    go_wp2_with (first | (go_at_call 120; refine (HT.out _).mono ?_; rintro e w2 ⟨rfl, rfl⟩))
    refine (layA 20 [tagV f.num (wireV f), f.kind, f.ref] (by simp) H1.out (by have := HN.out; omega) _ (by exact blBy)).mono ?_
    rintro e w3 ⟨rfl, h3, g3⟩
    replace h3 : LyR w3 base p (l ++ wrtL f) := by rw [HX.out]; exact h3
    go_wp2
    go_end0
    exact ⟨rfl, h3, g3.pre hb1.out⟩
  rcases hlab with h3 | h5
  · have HX : Hid (wrtL f = [insV 21 [tagV f.num 2, f.kind]]) := hid (by unfold wrtL; rw [if_neg (by omega), if_pos h3])
    rw [h3] at HV ⊢
    go_enter Tryz.func79, Tryz.ntmps79
    go_wp2_with fail
    refine (HV.out _).mono ?_
    rintro e w1 ⟨rfl, hb1⟩
    have Bf : Blk w1 w.heap.size 55 #[.string (strOfNums f.name), .int .i64 f.num, .int .i64 f.kind, .int .i64 f.ref, .int .i64 3, .int .i64 f.one, .int .i64 f.key] := (Blk.new _ _ _).kept hb1
    replace hb1 : Hid (Below w.heap.size w w1) := hid (bl_then (by exact blBy) hb1)
    have H1 : Hid (LyR w1 base p l) := hid (HL.out.kept hb1.out)
    have xf := Bf.cellF
    have zf := Bf.lt
    replace Bf := hid Bf
    have e1 := Bf.out.cell 1 _ rfl
    have e2 := Bf.out.cell 2 _ rfl
    simp only [List.getElem_toArray, List.getElem_cons_succ, List.getElem_cons_zero] at e1 e2
    have HLA := hid (layB 21 [tagV f.num 2, f.kind] (by simp) H1.out (by have := HN.out; omega))
    go_wp2_with (first | (go_at_call 120; refine (HT.out _).mono ?_; rintro e w2 ⟨rfl, rfl⟩))
    clear xf
    go_region_held3 (fun W => W.cell? ⟨w.heap.size, 1, none⟩ = some (.int .i64 f.num) ∧ W.cell? ⟨w.heap.size, 2, none⟩ = some (.int .i64 f.kind)) (first | exact ⟨e1, e2⟩ | exact ⟨cell_below e1 (bl_drew (below_alloc _)), cell_below e2 (bl_drew (below_alloc _))⟩) (first | (go_at_call 120; refine (HT2.out _).mono ?_; rintro e w2 ⟨rfl, rfl⟩) | (go_at_call 70; refine (HLA.out _ _ (bl_drew (below_alloc _)) ((Blk.new _ _ _).kept (below_drew1 _))).mono ?_; rintro e w3 ⟨rfl, h3, g3⟩; replace e1 := (Bf.out.lf g3 (by have := HB.out; omega) (by decide)).cell 1 _ rfl; replace e2 := (Bf.out.lf g3 (by have := HB.out; omega) (by decide)).cell 2 _ rfl))
    replace h3 : LyR w3 base p (l ++ wrtL f) := by rw [HX.out]; exact h3
    go_wp2
    go_end0
    exact ⟨rfl, h3, g3.pre hb1.out⟩
  · have HX : Hid (wrtL f = [insV 22 [tagV f.num (wireV f), f.key, f.kind, f.ref]]) := hid (by unfold wrtL; rw [if_pos h5])
    rw [h5] at HV ⊢
    go_enter Tryz.func79, Tryz.ntmps79
    go_wp2_with fail
    refine (HV.out _).mono ?_
    rintro e w1 ⟨rfl, hb1⟩
    have Bf : Blk w1 w.heap.size 55 #[.string (strOfNums f.name), .int .i64 f.num, .int .i64 f.kind, .int .i64 f.ref, .int .i64 5, .int .i64 f.one, .int .i64 f.key] := (Blk.new _ _ _).kept hb1
    replace hb1 : Hid (Below w.heap.size w w1) := hid (bl_then (by exact blBy) hb1)
    have H1 : Hid (LyR w1 base p l) := hid (HL.out.kept hb1.out)
    have xf := Bf.cellF
    have zf := Bf.lt
    replace Bf := hid Bf
    go_wp2_with (first | (go_at_call 120; refine (HT.out _).mono ?_; rintro e w2 ⟨rfl, rfl⟩))
    refine (layA 22 [tagV f.num (wireV f), f.key, f.kind, f.ref] (by simp) H1.out (by have := HN.out; omega) _ (by exact blBy)).mono ?_
    rintro e w3 ⟨rfl, h3, g3⟩
    replace h3 : LyR w3 base p (l ++ wrtL f) := by rw [HX.out]; exact h3
    go_wp2
    go_end0
    exact ⟨rfl, h3, g3.pre hb1.out⟩
theorem cf_enter {f : FuncId} {fn : Func} (hf : Tryz.prog.funcs[f]? = some fn) (hname : (fn.name == "runtime.NumGoroutine") = false) (hb : fn.body.isNone = false) (args : Array Value) (W : World) : (callFunc f args).run Tryz.prog W = .ok (.enter f args) W := by
  unfold callFunc
  simp only [Sem.run_bind, run_program, Result.andThen_ok, hf, hname, hb, Bool.false_eq_true, if_false, Sem.run_pure]
theorem cfD1 (args : Array Value) (W : World) : (callFunc 73 args).run Tryz.prog W = .ok (.enter 73 args) W := cf_enter Tryz.func73 (by kernel_rfl) (by kernel_rfl) args W
theorem cfD2 (args : Array Value) (W : World) : (callFunc 76 args).run Tryz.prog W = .ok (.enter 76 args) W := cf_enter Tryz.func76 (by kernel_rfl) (by kernel_rfl) args W
theorem decC1 (w : World) (base p px pf : Nat) (l : List IN) (f : FT) (fs : List FT) (nm : List Int) (en : Bool) (fa oa sa ra : Option Addr) (fc on oc sn sc rn rc : Nat) (hx : RowS w (· < base) 7 (.slice fa fs.length fc) fs.length (fs.flatMap cFT)) (hL : LyR w base p l) (hn : l.length + fs.length ≤ 3999980) (Bx : Blk w px 53 #[.string (strOfNums nm), .bool en, .slice fa fs.length fc, .slice oa on oc, .slice sa sn sc, .slice ra rn rc]) (Bf : Blk w pf 55 #[.string (strOfNums f.name), .int .i64 f.num, .int .i64 f.kind, .int .i64 f.ref, .int .i64 f.lab, .int .i64 f.one, .int .i64 f.key]) : Calls Tryz.prog 73 #[.pointer (some ⟨p, 0, none⟩), .pointer (some ⟨px, 0, none⟩), .pointer (some ⟨pf, 0, none⟩)] w fun e w' => e = .returned (.tuple #[]) ∧ LyR w' base p (l ++ valL fs f) ∧ LF base p w w' := by
  have HC := hid (layValueT w base p l f fs nm en fa oa sa ra fc on oc sn sc rn rc hx hL hn)
  have xx := Bx.cellF
  have zx := Bx.lt
  have xf := Bf.cellF
  have zf := Bf.lt
  have zp := hL.lt
  clear hx hL Bx Bf
  go_enter Tryz.func73, Tryz.ntmps73
  go_wp2_with fail
  refine HC.out.mono ?_
  rintro e w1 ⟨rfl, h1, g1⟩
  go_wp2
  go_end0
  exact ⟨rfl, h1, g1⟩
theorem decC2 (w : World) (base p pf : Nat) (l : List IN) (f : FT) (hf : FOk f) (hL : LyR w base p l) (hn : l.length ≤ 3999980) (Bf : Blk w pf 55 #[.string (strOfNums f.name), .int .i64 f.num, .int .i64 f.kind, .int .i64 f.ref, .int .i64 f.lab, .int .i64 f.one, .int .i64 f.key]) : Calls Tryz.prog 76 #[.pointer (some ⟨p, 0, none⟩), .pointer (some ⟨pf, 0, none⟩)] w fun e w' => e = .returned (.tuple #[]) ∧ LyR w' base p (l ++ rowL f) ∧ LF base p w w' := by
  have HC := hid (layRowT w base p l f hf hL (by omega))
  have xf := Bf.cellF
  have zf := Bf.lt
  have zp := hL.lt
  clear hL Bf
  go_enter Tryz.func76, Tryz.ntmps76
  go_wp2_with fail
  refine HC.out.mono ?_
  rintro e w1 ⟨rfl, h1, g1⟩
  go_wp2
  go_end0
  exact ⟨rfl, h1, g1⟩
theorem takesRow2T (f : FT) (w : World) : Calls Tryz.prog 75 #[.agg #[.string (strOfNums f.name), .int .i64 f.num, .int .i64 f.kind, .int .i64 f.ref, .int .i64 f.lab, .int .i64 f.one, .int .i64 f.key], .int .i64 2] w fun e w' => e = .returned (.bool (rowsV f)) ∧ Below w.heap.size w w' := by
  have HK := hid (numericW f.kind)
  have HX : Hid (rowsV f = (decide (f.lab = 2 ∨ f.lab = 3) && knum f.kind)) := hid rfl
  generalize knum f.kind = kn at *
  generalize rowsV f = res at *
  by_cases h2 : f.lab = 2
  · have k2 : (f.lab == 2) = true := by simpa using h2
    rw [decide_eq_true (.inl h2), Bool.true_and] at HX
    replace h2 := hid h2
    cases kn <;>
    · go_enter Tryz.func75, Tryz.ntmps75
      go_wp2_with (first | (go_at_call 124; refine (HK.out _).mono ?_; rintro e w1 ⟨rfl, rfl⟩))
      go_ret
      exact ⟨ret_bool (by rw [HX.out]; try simp), by exact blBy⟩
  · have k2 : (f.lab == 2) = false := by simpa using h2
    by_cases h3 : f.lab = 3
    · have k3 : (f.lab == 3) = true := by simpa using h3
      rw [decide_eq_true (.inr h3), Bool.true_and] at HX
      replace h2 := hid h2
      replace h3 := hid h3
      cases kn <;>
      · go_enter Tryz.func75, Tryz.ntmps75
        go_wp2_with (first | (go_at_call 124; refine (HK.out _).mono ?_; rintro e w1 ⟨rfl, rfl⟩))
        go_ret
        exact ⟨ret_bool (by rw [HX.out]; try simp), by exact blBy⟩
    · have k3 : (f.lab == 3) = false := by simpa using h3
      rw [decide_eq_false (by omega), Bool.false_and] at HX
      replace h2 := hid h2
      replace h3 := hid h3
      go_enter Tryz.func75, Tryz.ntmps75
      go_wp2
      go_ret
      exact ⟨ret_bool HX.out.symm, by exact blBy⟩
theorem caseL_len (n : Nat) (tag : Int) (b : List IN) : (caseL n tag b).length = b.length + 2 := by simp [caseL]
theorem valL_len (fs : List FT) (f : FT) : (valL fs f).length ≤ fs.length + 3 := by
  have := clrL_len fs f
  unfold valL
  split
  · simp
  · split
    · simp; omega
    · split <;> simp <;> omega
theorem case1_len (fs : List FT) (acc : List IN) (f : FT) : (case1 fs acc f).length ≤ acc.length + fs.length + 5 := by
  have := valL_len fs f
  unfold case1
  rw [List.length_append, caseL_len]
  omega
theorem case2_len (acc : List IN) (f : FT) : (case2 acc f).length ≤ acc.length + 3 := by
  unfold case2
  split
  · rw [List.length_append, caseL_len]; simp [rowL]
  · omega
theorem decF_len (fs : List FT) : ∀ (l : List FT) (acc : List IN), (l.foldl (decS fs) acc).length ≤ acc.length + l.length * (fs.length + 8)
  | [], acc => by simp
  | f :: l, acc => by
    have h1 := decF_len fs l (decS fs acc f)
    have h2 : (decS fs acc f).length ≤ acc.length + fs.length + 8 := by
      have a := case1_len fs acc f
      have b := case2_len (case1 fs acc f) f
      unfold decS
      omega
    rw [List.foldl_cons, List.length_cons, Nat.add_mul]
    omega
theorem wrtL_len (f : FT) : (wrtL f).length ≤ 2 := by
  unfold wrtL
  split
  · simp
  · split
    · simp
    · split <;> simp
theorem encF_len : ∀ (l : List FT) (acc : List IN), (l.foldl encS acc).length ≤ acc.length + l.length * 3
  | [], acc => by simp
  | f :: l, acc => by
    have h1 := encF_len l (encS acc f)
    have h2 : (encS acc f).length ≤ acc.length + 3 := by
      have := wrtL_len f
      unfold encS
      simp
      omega
    rw [List.foldl_cons, List.length_cons]
    omega
theorem LyR.own {w : World} {base p : Nat} {l : List IN} (h : LyR w base p l) : ∃ a c, Blk w p 101 #[.slice a l.length c] ∧ w.ownsRow base 57 5 (.slice a l.length c) l.length (l.flatMap cIN) := by
  obtain ⟨hp, v, h1, h2⟩ := h
  obtain ⟨a, c, rfl⟩ := own_shape h2
  exact ⟨a, c, h1, h2⟩
/-- What decOf and encOf answer. -/
def StepsR (w : World) (l : List IN) (e : Ending) (w' : World) : Prop := ∃ a c, e = .returned (.slice a l.length c) ∧ w'.ownsRow w.heap.size 57 5 (.slice a l.length c) l.length (l.flatMap cIN) ∧ Below w.heap.size w w'
theorem decOfT (w : World) (fs : List FT) (nm : List Int) (en : Bool) (fa oa sa ra : Option Addr) (fc on oc sn sc rn rc : Nat) (hx : RowS w (· < w.heap.size) 7 (.slice fa fs.length fc) fs.length (fs.flatMap cFT)) (hf : ∀ f ∈ fs, FOk f) (hl : fs.length ≤ 128) : Calls Tryz.prog 43 #[.agg #[.string (strOfNums nm), .bool en, .slice fa fs.length fc, .slice oa on oc, .slice sa sn sc, .slice ra rn rc]] w (StepsR w (decL fs)) := by
  have HR := hid hx
  have HF := hid hf
  have HN : Hid (∀ j, ((fs.take j).foldl (decS fs) [insV 1 []]).length ≤ 18000) := hid fun j => by
    have h1 := decF_len fs (fs.take j) [insV 1 []]
    have h2 : (fs.take j).length ≤ 128 := by rw [List.length_take]; omega
    have h3 : (fs.take j).length * (fs.length + 8) ≤ 128 * 136 := Nat.mul_le_mul h2 (by omega)
    simp only [List.length_cons, List.length_nil] at h1
    omega
  clear hx hf
  go_enter Tryz.func43, Tryz.ntmps43
  go_wp2_with fail
  refine (lay0 _ w.heap.size (w.heap.size + 1) [] 1 ⟨by omega, .slice none 0 0, Blk.newAt (by simp), World.ownsRow_nil _ _ _ _⟩ (by simp)).mono ?_
  rintro e w1 ⟨rfl, h1, g1⟩
  have Bx : Blk w1 w.heap.size 53 #[.string (strOfNums nm), .bool en, .slice fa fs.length fc, .slice oa on oc, .slice sa sn sc, .slice ra rn rc] := ((Blk.new _ _ _).kept (below_alloc _)).lf g1 (by omega) (by decide)
  replace g1 : Hid (LF w.heap.size (w.heap.size + 1) w w1) := hid (g1.pre (by exact blBy))
  have xx := Bx.cellF
  have zx := Bx.lt
  have HBX := hid Bx
  clear Bx
  have H1 := hid h1
  clear h1
  go_wp2_with fail
  have HB : Hid (w.heap.size + 1 < w1.heap.size) := hid H1.out.lt
  go_loopw [12] (fun r wr => ∃ j : Nat, r = .int .i64 j ∧ j ≤ fs.length ∧ Hid (LyR wr w.heap.size (w.heap.size + 1) ((fs.take j).foldl (decS fs) [insV 1 []])) ∧ Hid (LF w.heap.size (w.heap.size + 1) w wr) ∧ Hid (Blk wr w.heap.size 53 #[.string (strOfNums nm), .bool en, .slice fa fs.length fc, .slice oa on oc, .slice sa sn sc, .slice ra rn rc])) (fun r wr => fs.length - numAt wr r)
  case atStart => exact ⟨0, rfl, by omega, hid (by simpa using H1.out), g1, HBX⟩
  case round =>
    clear xx zx HBX H1 g1
    obtain ⟨j, rfl, hj, h1, g1, Bx⟩ := hrel
    by_cases hlt : j < fs.length
    · have h2 : (j : Int) < (fs.length : Int) := by omega
      have h63 : (fs.length : Int) ≤ 9223372036854775807 := by omega
      obtain ⟨fb, fo, rfl, hc⟩ := rowAt (g := cFT) (fun _ => rfl) (HR.out.keep (g1.out.keep (Nat.le_refl _)) (fun _ h => h)) (i := j) (x := fs[j]) (by simp [hlt])
      have c0 := hc 0 _ rfl
      have c1 := hc 1 _ rfl
      have c2 := hc 2 _ rfl
      have c3 := hc 3 _ rfl
      have c4 := hc 4 _ rfl
      have c5 := hc 5 _ rfl
      have c6 := hc 6 _ rfl
      clear hc
      simp only [Nat.add_zero] at c0
      have hfb : fb < wr.heap.size := World.block_lt_of_cell? _ _ c0
      have HTK : Hid ((fs.take (j + 1)).foldl (decS fs) [insV 1 []] = case2 (case1 fs ((fs.take j).foldl (decS fs) [insV 1 []]) fs[j]) fs[j]) := hid (by rw [List.take_succ_eq_append_getElem hlt, List.foldl_append]; rfl)
      have HNJ := hid (HN.out j)
      have HFO := hid (HF.out _ (List.getElem_mem hlt))
      generalize fs[j] = f at *
      generalize (fs.take j).foldl (decS fs) [insV 1 []] = acc at *
      have zr : w.heap.size + 1 < wr.heap.size := h1.out.lt
      go_wp2_with fail
      refine (valueWireT _ f HFO.out).mono ?_
      rintro e w2 ⟨rfl, hb2⟩
      have Bf : Hid (Blk w2 wr.heap.size 55 #[.string (strOfNums f.name), .int .i64 f.num, .int .i64 f.kind, .int .i64 f.ref, .int .i64 f.lab, .int .i64 f.one, .int .i64 f.key]) := hid ((Blk.new _ _ _).kept hb2)
      replace hb2 : Below wr.heap.size wr w2 := bl_then (by exact blBy) hb2
      replace Bx := hid (Bx.out.kept hb2)
      replace h1 := hid (h1.out.kept hb2)
      replace g1 := hid (g1.out.trans (LF.ofBelow hb2))
      have z2 : wr.heap.size < w2.heap.size := Bf.out.lt
      clear hb2 c0 c1 c2 c3 c4 c5 c6
      have xf := Bf.out.cellF
      have HCK : Hid (∀ W l', LyR W w.heap.size (w.heap.size + 1) l' → l'.length ≤ acc.length + 1 → LF w.heap.size (w.heap.size + 1) w2 W → Calls Tryz.prog 73 #[.pointer (some ⟨w.heap.size + 1, 0, none⟩), .pointer (some ⟨w.heap.size, 0, none⟩), .pointer (some ⟨wr.heap.size, 0, none⟩)] W fun e w' => e = .returned (.tuple #[]) ∧ LyR w' w.heap.size (w.heap.size + 1) (l' ++ valL fs f) ∧ LF w.heap.size (w.heap.size + 1) W w') := hid fun W l' q1 q2 q3 =>
        decC1 W w.heap.size (w.heap.size + 1) w.heap.size wr.heap.size l' f fs nm en (some ⟨fb, fo, none⟩) oa sa ra fc on oc sn sc rn rc (HR.out.keep ((g1.out.trans q3).keep (Nat.le_refl _)) (fun _ h => h)) q1 (by have := HNJ.out; omega) (Bx.out.lf q3 (by omega) (by decide)) (Bf.out.lf q3 (by omega) (by decide))
      go_wp2_with fail
      refine (layCaseT w2 w.heap.size (w.heap.size + 1) acc (valL fs f) f HFO.out (wireV f) (wireV_le f HFO.out) _ _ cfD1 HCK.out h1.out (by have := HNJ.out; have := valL_len fs f; omega)).mono ?_
      rintro e w3 ⟨rfl, h3, g3⟩
      replace Bx := hid (Bx.out.lf g3 (by omega) (by decide))
      replace Bf := hid (Bf.out.lf g3 (by omega) (by decide))
      replace g3 := hid (g1.out.trans g3)
      have z3 : wr.heap.size < w3.heap.size := Bf.out.lt
      replace h3 : Hid (LyR w3 w.heap.size (w.heap.size + 1) (case1 fs acc f)) := hid h3
      have HN1 := hid (case1_len fs acc f)
      clear h1 g1 xf HCK
      have xf := Bf.out.cellF
      go_wp2_with fail
      refine (takesRow2T f _).mono ?_
      rintro e w4 ⟨rfl, hb4⟩
      replace Bx := hid (Bx.out.kept hb4)
      replace Bf := hid (Bf.out.kept hb4)
      replace h3 := hid (h3.out.kept hb4)
      replace g3 := hid (g3.out.trans (LF.ofBelow hb4))
      have z4 : wr.heap.size < w4.heap.size := Bf.out.lt
      clear hb4 xf
      cases hrw : rowsV f with
      | false =>
        have HC2 : Hid (case2 (case1 fs acc f) f = case1 fs acc f) := hid (by unfold case2; rw [hrw]; rfl)
        go_wp2
        exact ⟨⟨j + 1, by simp, by omega, hid (by rw [HTK.out, HC2.out]; exact h3.out), g3, Bx⟩, by simp [numAt]; omega⟩
      | true =>
        have HC2 : Hid (case2 (case1 fs acc f) f = case1 fs acc f ++ caseL (case1 fs acc f).length (tagV f.num 2) (rowL f)) := hid (by unfold case2; rw [hrw]; rfl)
        have xf := Bf.out.cellF
        generalize case1 fs acc f = ac1 at *
        have HCK : Hid (∀ W l', LyR W w.heap.size (w.heap.size + 1) l' → l'.length ≤ ac1.length + 1 → LF w.heap.size (w.heap.size + 1) w4 W → Calls Tryz.prog 76 #[.pointer (some ⟨w.heap.size + 1, 0, none⟩), .pointer (some ⟨wr.heap.size, 0, none⟩)] W fun e w' => e = .returned (.tuple #[]) ∧ LyR w' w.heap.size (w.heap.size + 1) (l' ++ rowL f) ∧ LF w.heap.size (w.heap.size + 1) W w') := hid fun W l' q1 q2 q3 =>
          decC2 W w.heap.size (w.heap.size + 1) wr.heap.size l' f HFO.out q1 (by have := HNJ.out; have := HN1.out; omega) (Bf.out.lf q3 (by omega) (by decide))
        go_wp2_with fail
        refine (layCaseT w4 w.heap.size (w.heap.size + 1) ac1 (rowL f) f HFO.out 2 (by decide) _ _ cfD2 HCK.out h3.out (by have := HNJ.out; have := HN1.out; simp [rowL]; omega)).mono ?_
        rintro e w5 ⟨rfl, h5, g5⟩
        rw [← HC2.out, ← HTK.out] at h5
        replace Bx := hid (Bx.out.lf g5 (by omega) (by decide))
        replace g5 := hid (g3.out.trans g5)
        go_wp2
        exact ⟨⟨j + 1, by simp, by omega, hid h5, g5, Bx⟩, by simp [numAt]; omega⟩
    · have h2 : ¬ (j : Int) < (fs.length : Int) := by omega
      have e1 : fs.take j = fs := List.take_of_length_le (by omega)
      have HNJ := hid (HN.out j)
      have HX : Hid (decL fs = fs.foldl (decS fs) [insV 1 []] ++ [insV 13 [], insV 4 [0]]) := hid rfl
      rw [e1] at h1 HNJ
      generalize fs.foldl (decS fs) [insV 1 []] = acc at *
      go_wp2_with fail
      refine (lay0 _ _ _ _ 13 h1.out (by have := HNJ.out; omega)).mono ?_
      rintro e w2 ⟨rfl, h3, g3⟩
      replace g3 := hid (g1.out.trans g3)
      go_wp2_with fail
      refine (layA 4 [0] (by simp) h3 (by have := HNJ.out; simp; omega) _ (by exact blBy)).mono ?_
      rintro e w4 ⟨rfl, h5, g5⟩
      replace g5 := hid ((g3.out.trans g5).below (Nat.le_refl _))
      have e2 : acc ++ [insV 13 []] ++ [insV 4 [0]] = decL fs := by rw [HX.out]; simp
      rw [e2] at h5
      obtain ⟨a, c, B5, o5⟩ := h5.own
      have x5 := B5.cellF
      have z5 := B5.lt
      replace o5 := hid o5
      clear h5 B5 HX e2
      go_wp2
      go_ret
      exact ⟨a, c, rfl, o5.out, g5.out⟩
theorem encOfT (w : World) (fs : List FT) (nm : List Int) (en : Bool) (fa oa sa ra : Option Addr) (fc on oc sn sc rn rc : Nat) (hx : RowS w (· < w.heap.size) 7 (.slice fa fs.length fc) fs.length (fs.flatMap cFT)) (hf : ∀ f ∈ fs, FOk f) (hl : fs.length ≤ 128) : Calls Tryz.prog 44 #[.agg #[.string (strOfNums nm), .bool en, .slice fa fs.length fc, .slice oa on oc, .slice sa sn sc, .slice ra rn rc]] w (StepsR w (encL fs)) := by
  have HR := hid hx
  have HF := hid hf
  have HN : Hid (∀ j, ((fs.take j).foldl encS []).length ≤ 400) := hid fun j => by
    have h1 := encF_len (fs.take j) []
    have h2 : (fs.take j).length ≤ 128 := by rw [List.length_take]; omega
    simp only [List.length_nil] at h1
    omega
  clear hx hf
  go_enter Tryz.func44, Tryz.ntmps44
  go_wp2_with fail
  go_loopw [11] (fun r wr => ∃ j : Nat, r = .int .i64 j ∧ j ≤ fs.length ∧ Hid (LyR wr w.heap.size (w.heap.size + 1) ((fs.take j).foldl encS [])) ∧ Hid (LF w.heap.size (w.heap.size + 1) w wr)) (fun r wr => fs.length - numAt wr r)
  case atStart => exact ⟨0, rfl, by omega, hid ⟨by omega, .slice none 0 0, Blk.newAt (by simp), World.ownsRow_nil _ _ _ _⟩, hid (LF.ofBelow (by exact blBy))⟩
  case round =>
    obtain ⟨j, rfl, hj, h1, g1⟩ := hrel
    by_cases hlt : j < fs.length
    · have h2 : (j : Int) < (fs.length : Int) := by omega
      have h63 : (fs.length : Int) ≤ 9223372036854775807 := by omega
      obtain ⟨fb, fo, rfl, hc⟩ := rowAt (g := cFT) (fun _ => rfl) (HR.out.keep (g1.out.keep (Nat.le_refl _)) (fun _ h => h)) (i := j) (x := fs[j]) (by simp [hlt])
      have c0 := hc 0 _ rfl
      have c1 := hc 1 _ rfl
      have c2 := hc 2 _ rfl
      have c3 := hc 3 _ rfl
      have c4 := hc 4 _ rfl
      have c5 := hc 5 _ rfl
      have c6 := hc 6 _ rfl
      clear hc
      simp only [Nat.add_zero] at c0
      have hfb : fb < wr.heap.size := World.block_lt_of_cell? _ _ c0
      have HTK : Hid ((fs.take (j + 1)).foldl encS [] = encS ((fs.take j).foldl encS []) fs[j]) := hid (by rw [List.take_succ_eq_append_getElem hlt, List.foldl_append]; rfl)
      have HNJ := hid (HN.out j)
      have HFO := hid (HF.out _ (List.getElem_mem hlt))
      generalize fs[j] = f at *
      generalize (fs.take j).foldl encS [] = acc at *
      have HW := hid (wrtL_len f)
      have zr : w.heap.size + 1 < wr.heap.size := h1.out.lt
      by_cases h0 : f.lab = 0
      · skip
        have k0 : (f.lab == 0) = true := by simpa using h0
        have HU : Hid ((if f.lab = 0 then f.kind else 0) = f.kind) := hid (by rw [if_pos h0])
        clear h0
        go_wp2_with fail
        refine (layAheadT _ w.heap.size (w.heap.size + 1) acc 16 [f.num, 0, f.kind] (by simp) _ (Blk.newAt (by simp)) (h1.out.kept (by exact blBy)) (by have := HNJ.out; omega)).mono ?_
        rintro e w2 ⟨fv, rfl, ⟨bl, ba, rfl, A1, A2, n1, n2⟩, h2, g2⟩
        replace A1 := hid A1
        replace A2 := hid A2
        have Bf : Hid (Blk w2 wr.heap.size 55 #[.string (strOfNums f.name), .int .i64 f.num, .int .i64 f.kind, .int .i64 f.ref, .int .i64 f.lab, .int .i64 f.one, .int .i64 f.key]) := hid (((Blk.new _ _ _).kept (below_alloc _)).lf g2 (by omega) (by decide))
        replace h2 := hid h2
        replace g2 := hid (g1.out.trans (g2.pre (by exact blBy)))
        clear h1 g1 c0 c1 c2 c3 c4 c5 c6
        have xf := Bf.out.cellF
        have zf := Bf.out.lt
        go_wp2_with fail
        refine (layWrittenT _ w.heap.size (w.heap.size + 1) _ f HFO.out h2.out (by have := HNJ.out; simp; omega)).mono ?_
        rintro e w3 ⟨rfl, h3, g3⟩
        replace A1 := hid (A1.out.lf g3 n1 (by decide))
        replace A2 := hid (A2.out.lf g3 n2 (by decide))
        replace h3 := hid h3
        replace g3 := hid (g2.out.trans g3)
        clear h2 g2 xf zf
        go_wp2_with fail
        refine (arriveT _ w.heap.size (w.heap.size + 1) bl ba acc.length _ A1.out A2.out h3.out (by have := HNJ.out; have := HW.out; simp; omega) (by simp)).mono ?_
        rintro e w4 ⟨rfl, h4, g4⟩
        rw [set_mid acc (wrtL f) (insV 16 [f.num, 0, f.kind]) _ _ (by simp)] at h4
        replace h4 : Hid (LyR w4 w.heap.size (w.heap.size + 1) (encS acc f)) := hid (by unfold encS; rw [HU.out]; simpa [insV, Nat.add_assoc, Nat.add_comm] using h4)
        replace g4 := hid (g3.out.trans g4)
        rw [← HTK.out] at h4
        go_wp2
        exact ⟨⟨j + 1, by simp, by omega, h4, g4⟩, by simp [numAt]; omega⟩
      · skip
        have k0 : (f.lab == 0) = false := by simpa using h0
        have HU : Hid ((if f.lab = 0 then f.kind else 0) = 0) := hid (by rw [if_neg h0])
        clear h0
        go_wp2_with fail
        refine (layAheadT _ w.heap.size (w.heap.size + 1) acc 16 [f.num, 0, 0] (by simp) _ (Blk.newAt (by simp)) (h1.out.kept (by exact blBy)) (by have := HNJ.out; omega)).mono ?_
        rintro e w2 ⟨fv, rfl, ⟨bl, ba, rfl, A1, A2, n1, n2⟩, h2, g2⟩
        replace A1 := hid A1
        replace A2 := hid A2
        have Bf : Hid (Blk w2 wr.heap.size 55 #[.string (strOfNums f.name), .int .i64 f.num, .int .i64 f.kind, .int .i64 f.ref, .int .i64 f.lab, .int .i64 f.one, .int .i64 f.key]) := hid (((Blk.new _ _ _).kept (below_alloc _)).lf g2 (by omega) (by decide))
        replace h2 := hid h2
        replace g2 := hid (g1.out.trans (g2.pre (by exact blBy)))
        clear h1 g1 c0 c1 c2 c3 c4 c5 c6
        have xf := Bf.out.cellF
        have zf := Bf.out.lt
        go_wp2_with fail
        refine (layWrittenT _ w.heap.size (w.heap.size + 1) _ f HFO.out h2.out (by have := HNJ.out; simp; omega)).mono ?_
        rintro e w3 ⟨rfl, h3, g3⟩
        replace A1 := hid (A1.out.lf g3 n1 (by decide))
        replace A2 := hid (A2.out.lf g3 n2 (by decide))
        replace h3 := hid h3
        replace g3 := hid (g2.out.trans g3)
        clear h2 g2 xf zf
        go_wp2_with fail
        refine (arriveT _ w.heap.size (w.heap.size + 1) bl ba acc.length _ A1.out A2.out h3.out (by have := HNJ.out; have := HW.out; simp; omega) (by simp)).mono ?_
        rintro e w4 ⟨rfl, h4, g4⟩
        rw [set_mid acc (wrtL f) (insV 16 [f.num, 0, 0]) _ _ (by simp)] at h4
        replace h4 : Hid (LyR w4 w.heap.size (w.heap.size + 1) (encS acc f)) := hid (by unfold encS; rw [HU.out]; simpa [insV, Nat.add_assoc, Nat.add_comm] using h4)
        replace g4 := hid (g3.out.trans g4)
        rw [← HTK.out] at h4
        go_wp2
        exact ⟨⟨j + 1, by simp, by omega, h4, g4⟩, by simp [numAt]; omega⟩
    · have h2 : ¬ (j : Int) < (fs.length : Int) := by omega
      have e1 : fs.take j = fs := List.take_of_length_le (by omega)
      have HNJ := hid (HN.out j)
      have HX : Hid (encL fs = fs.foldl encS [] ++ [insV 23 [], insV 24 []]) := hid rfl
      rw [e1] at h1 HNJ
      generalize fs.foldl encS [] = acc at *
      go_wp2_with fail
      refine (lay0 _ _ _ _ 23 h1.out (by have := HNJ.out; omega)).mono ?_
      rintro e w2 ⟨rfl, h3, g3⟩
      replace g3 := hid (g1.out.trans g3)
      go_wp2_with fail
      refine (lay0 _ _ _ _ 24 h3 (by have := HNJ.out; simp; omega)).mono ?_
      rintro e w4 ⟨rfl, h5, g5⟩
      replace g5 := hid ((g3.out.trans g5).below (Nat.le_refl _))
      have e2 : acc ++ [insV 23 []] ++ [insV 24 []] = encL fs := by rw [HX.out]; simp
      rw [e2] at h5
      obtain ⟨a, c, B5, o5⟩ := h5.own
      have x5 := B5.cellF
      have z5 := B5.lt
      replace o5 := hid o5
      clear h5 B5 HX e2
      go_wp2
      go_ret
      exact ⟨a, c, rfl, o5.out, g5.out⟩
end Go.Proofs.YtmcbllannkhfaaaGreatDoor
