/-
  A message's steps: Enc, Dec.
  A message's steps: Enc.
-/
import Derived.Test.YtdhkbdngmejklaaGreatDoorCKC
namespace Go.Proofs.YtdhkbdngmejklaaGreatDoor
open Go.RowKit
set_option maxRecDepth 1000000
set_option linter.unusedVariables false
set_option linter.unusedSimpArgs false
set_option maxHeartbeats 1000000
theorem cf_enter {f : FuncId} {fn : Func} (hf : Tryz.prog.funcs[f]? = some fn) (hname : (fn.name == "runtime.NumGoroutine") = false) (hb : fn.body.isNone = false) (args : Array Value) (W : World) : (callFunc f args).run Tryz.prog W = .ok (.enter f args) W := by
  unfold callFunc
  simp only [Sem.run_bind, run_program, Result.andThen_ok, hf, hname, hb, Bool.false_eq_true, if_false, Sem.run_pure]
theorem cfD1 (args : Array Value) (W : World) : (callFunc 69 args).run Tryz.prog W = .ok (.enter 69 args) W := cf_enter Tryz.func69 (by kernel_rfl) (by kernel_rfl) args W
theorem cfD2 (args : Array Value) (W : World) : (callFunc 72 args).run Tryz.prog W = .ok (.enter 72 args) W := cf_enter Tryz.func72 (by kernel_rfl) (by kernel_rfl) args W
theorem decC1 (w : World) (base p px pf : Nat) (l : List IN) (f : FT) (fs : List FT) (nm : List Int) (en : Bool) (fa oa sa ra : Option Addr) (fc on oc sn sc rn rc : Nat) (hx : RowS w (· < base) 7 (.slice fa fs.length fc) fs.length (fs.flatMap cFT)) (hL : LyR w base p l) (hn : l.length + fs.length ≤ 3999980) (Bx : Blk w px 57 #[.string (strOfNums nm), .bool en, .slice fa fs.length fc, .slice oa on oc, .slice sa sn sc, .slice ra rn rc]) (Bf : Blk w pf 61 #[.string (strOfNums f.name), .int .i64 f.num, .int .i64 f.kind, .int .i64 f.ref, .int .i64 f.lab, .int .i64 f.one, .int .i64 f.key]) : Calls Tryz.prog 69 #[.pointer (some ⟨p, 0, none⟩), .pointer (some ⟨px, 0, none⟩), .pointer (some ⟨pf, 0, none⟩)] w fun e w' => e = .returned (.tuple #[]) ∧ LyR w' base p (l ++ valL fs f) ∧ LF base p w w' := by
  have HC := hid (layValueT w base p l f fs nm en fa oa sa ra fc on oc sn sc rn rc hx hL hn)
  have xx := Bx.cellF
  have zx := Bx.lt
  have xf := Bf.cellF
  have zf := Bf.lt
  have zp := hL.lt
  clear hx hL Bx Bf
  go_enter Tryz.func69, Tryz.ntmps69
  go_wp2_with fail
  refine HC.out.mono ?_
  rintro e w1 ⟨rfl, h1, g1⟩
  go_wp2
  go_end0
  exact ⟨rfl, h1, g1⟩
theorem decC2 (w : World) (base p pf : Nat) (l : List IN) (f : FT) (hf : FOk f) (hL : LyR w base p l) (hn : l.length ≤ 3999980) (Bf : Blk w pf 61 #[.string (strOfNums f.name), .int .i64 f.num, .int .i64 f.kind, .int .i64 f.ref, .int .i64 f.lab, .int .i64 f.one, .int .i64 f.key]) : Calls Tryz.prog 72 #[.pointer (some ⟨p, 0, none⟩), .pointer (some ⟨pf, 0, none⟩)] w fun e w' => e = .returned (.tuple #[]) ∧ LyR w' base p (l ++ rowL f) ∧ LF base p w w' := by
  have HC := hid (layRowT w base p l f hf hL (by omega))
  have xf := Bf.cellF
  have zf := Bf.lt
  have zp := hL.lt
  clear hL Bf
  go_enter Tryz.func72, Tryz.ntmps72
  go_wp2_with fail
  refine HC.out.mono ?_
  rintro e w1 ⟨rfl, h1, g1⟩
  go_wp2
  go_end0
  exact ⟨rfl, h1, g1⟩
theorem takesRow2T (f : FT) (w : World) : Calls Tryz.prog 71 #[.agg #[.string (strOfNums f.name), .int .i64 f.num, .int .i64 f.kind, .int .i64 f.ref, .int .i64 f.lab, .int .i64 f.one, .int .i64 f.key], .int .i64 2] w fun e w' => e = .returned (.bool (rowsV f)) ∧ Below w.heap.size w w' := by
  have HK := hid (numericW f.kind)
  have HX : Hid (rowsV f = (decide (f.lab = 2 ∨ f.lab = 3) && knum f.kind)) := hid rfl
  generalize knum f.kind = kn at *
  generalize rowsV f = res at *
  by_cases h2 : f.lab = 2
  · have k2 : (f.lab == 2) = true := by simpa using h2
    rw [decide_eq_true (.inl h2), Bool.true_and] at HX
    replace h2 := hid h2
    cases kn <;>
    · go_enter Tryz.func71, Tryz.ntmps71
      go_wp2_with (first | (go_at_call 82; refine (HK.out _).mono ?_; rintro e w1 ⟨rfl, rfl⟩))
      go_ret
      exact ⟨ret_bool (by rw [HX.out]; try simp), by exact blBy⟩
  · have k2 : (f.lab == 2) = false := by simpa using h2
    by_cases h3 : f.lab = 3
    · have k3 : (f.lab == 3) = true := by simpa using h3
      rw [decide_eq_true (.inr h3), Bool.true_and] at HX
      replace h2 := hid h2
      replace h3 := hid h3
      cases kn <;>
      · go_enter Tryz.func71, Tryz.ntmps71
        go_wp2_with (first | (go_at_call 82; refine (HK.out _).mono ?_; rintro e w1 ⟨rfl, rfl⟩))
        go_ret
        exact ⟨ret_bool (by rw [HX.out]; try simp), by exact blBy⟩
    · have k3 : (f.lab == 3) = false := by simpa using h3
      rw [decide_eq_false (by omega), Bool.false_and] at HX
      replace h2 := hid h2
      replace h3 := hid h3
      go_enter Tryz.func71, Tryz.ntmps71
      go_wp2
      go_ret
      exact ⟨ret_bool HX.out.symm, by exact blBy⟩
theorem caseL_len (n : Nat) (tag : Int) (b : List IN) : (caseL n tag b).length = b.length + 2 := by simp [caseL]
theorem valL_len (fs : List FT) (f : FT) : (valL fs f).length ≤ fs.length + 3 := by
  have := clrL_len fs f
  unfold valL
  split
  · simp
  · split
    · simp; omega
    · split <;> simp <;> omega
theorem case1_len (fs : List FT) (acc : List IN) (f : FT) : (case1 fs acc f).length ≤ acc.length + fs.length + 5 := by
  have := valL_len fs f
  unfold case1
  rw [List.length_append, caseL_len]
  omega
theorem case2_len (acc : List IN) (f : FT) : (case2 acc f).length ≤ acc.length + 3 := by
  unfold case2
  split
  · rw [List.length_append, caseL_len]; simp [rowL]
  · omega
theorem decF_len (fs : List FT) : ∀ (l : List FT) (acc : List IN), (l.foldl (decS fs) acc).length ≤ acc.length + l.length * (fs.length + 8)
  | [], acc => by simp
  | f :: l, acc => by
    have h1 := decF_len fs l (decS fs acc f)
    have h2 : (decS fs acc f).length ≤ acc.length + fs.length + 8 := by
      have a := case1_len fs acc f
      have b := case2_len (case1 fs acc f) f
      unfold decS
      omega
    rw [List.foldl_cons, List.length_cons, Nat.add_mul]
    omega
theorem wrtL_len (f : FT) : (wrtL f).length ≤ 2 := by
  unfold wrtL
  split
  · simp
  · split
    · simp
    · split <;> simp
theorem encF_len : ∀ (l : List FT) (acc : List IN), (l.foldl encS acc).length ≤ acc.length + l.length * 3
  | [], acc => by simp
  | f :: l, acc => by
    have h1 := encF_len l (encS acc f)
    have h2 : (encS acc f).length ≤ acc.length + 3 := by
      have := wrtL_len f
      unfold encS
      simp
      omega
    rw [List.foldl_cons, List.length_cons]
    omega
theorem LyR.own {w : World} {base p : Nat} {l : List IN} (h : LyR w base p l) : ∃ a c, Blk w p 91 #[.slice a l.length c] ∧ w.ownsRow base 63 5 (.slice a l.length c) l.length (l.flatMap cIN) := by
  obtain ⟨hp, v, h1, h2⟩ := h
  obtain ⟨a, c, rfl⟩ := own_shape h2
  exact ⟨a, c, h1, h2⟩
/-- What decOf and encOf answer. -/
def StepsR (w : World) (l : List IN) (e : Ending) (w' : World) : Prop := ∃ a c, e = .returned (.slice a l.length c) ∧ w'.ownsRow w.heap.size 63 5 (.slice a l.length c) l.length (l.flatMap cIN) ∧ Below w.heap.size w w'
theorem decOfT (w : World) (fs : List FT) (nm : List Int) (en : Bool) (fa oa sa ra : Option Addr) (fc on oc sn sc rn rc : Nat) (hx : RowS w (· < w.heap.size) 7 (.slice fa fs.length fc) fs.length (fs.flatMap cFT)) (hf : ∀ f ∈ fs, FOk f) (hl : fs.length ≤ 128) : Calls Tryz.prog 39 #[.agg #[.string (strOfNums nm), .bool en, .slice fa fs.length fc, .slice oa on oc, .slice sa sn sc, .slice ra rn rc]] w (StepsR w (decL fs)) := by
  have HR := hid hx
  have HF := hid hf
  have HN : Hid (∀ j, ((fs.take j).foldl (decS fs) [insV 1 []]).length ≤ 18000) := hid fun j => by
    have h1 := decF_len fs (fs.take j) [insV 1 []]
    have h2 : (fs.take j).length ≤ 128 := by rw [List.length_take]; omega
    have h3 : (fs.take j).length * (fs.length + 8) ≤ 128 * 136 := Nat.mul_le_mul h2 (by omega)
    simp only [List.length_cons, List.length_nil] at h1
    omega
  clear hx hf
  go_enter Tryz.func39, Tryz.ntmps39
  go_wp2_with fail
  refine (lay0 _ w.heap.size (w.heap.size + 1) [] 1 ⟨by omega, .slice none 0 0, Blk.newAt (by simp), World.ownsRow_nil _ _ _ _⟩ (by simp)).mono ?_
  rintro e w1 ⟨rfl, h1, g1⟩
  have Bx : Blk w1 w.heap.size 57 #[.string (strOfNums nm), .bool en, .slice fa fs.length fc, .slice oa on oc, .slice sa sn sc, .slice ra rn rc] := ((Blk.new _ _ _).kept (below_alloc _)).lf g1 (by omega) (by decide)
  replace g1 : Hid (LF w.heap.size (w.heap.size + 1) w w1) := hid (g1.pre (by exact blBy))
  have xx := Bx.cellF
  have zx := Bx.lt
  have HBX := hid Bx
  clear Bx
  have H1 := hid h1
  clear h1
  go_wp2_with fail
  have HB : Hid (w.heap.size + 1 < w1.heap.size) := hid H1.out.lt
  go_loopw [12] (fun r wr => ∃ j : Nat, r = .int .i64 j ∧ j ≤ fs.length ∧ Hid (LyR wr w.heap.size (w.heap.size + 1) ((fs.take j).foldl (decS fs) [insV 1 []])) ∧ Hid (LF w.heap.size (w.heap.size + 1) w wr) ∧ Hid (Blk wr w.heap.size 57 #[.string (strOfNums nm), .bool en, .slice fa fs.length fc, .slice oa on oc, .slice sa sn sc, .slice ra rn rc])) (fun r wr => fs.length - numAt wr r)
  case atStart => exact ⟨0, rfl, by omega, hid (by simpa using H1.out), g1, HBX⟩
  case round =>
    clear xx zx HBX H1 g1
    obtain ⟨j, rfl, hj, h1, g1, Bx⟩ := hrel
    by_cases hlt : j < fs.length
    · have h2 : (j : Int) < (fs.length : Int) := by omega
      have h63 : (fs.length : Int) ≤ 9223372036854775807 := by omega
      obtain ⟨fb, fo, rfl, hc⟩ := rowAt (g := cFT) (fun _ => rfl) (HR.out.keep (g1.out.keep (Nat.le_refl _)) (fun _ h => h)) (i := j) (x := fs[j]) (by simp [hlt])
      have c0 := hc 0 _ rfl
      have c1 := hc 1 _ rfl
      have c2 := hc 2 _ rfl
      have c3 := hc 3 _ rfl
      have c4 := hc 4 _ rfl
      have c5 := hc 5 _ rfl
      have c6 := hc 6 _ rfl
      clear hc
      simp only [Nat.add_zero] at c0
      have hfb : fb < wr.heap.size := World.block_lt_of_cell? _ _ c0
      have HTK : Hid ((fs.take (j + 1)).foldl (decS fs) [insV 1 []] = case2 (case1 fs ((fs.take j).foldl (decS fs) [insV 1 []]) fs[j]) fs[j]) := hid (by rw [List.take_succ_eq_append_getElem hlt, List.foldl_append]; rfl)
      have HNJ := hid (HN.out j)
      have HFO := hid (HF.out _ (List.getElem_mem hlt))
      generalize fs[j] = f at *
      generalize (fs.take j).foldl (decS fs) [insV 1 []] = acc at *
      have zr : w.heap.size + 1 < wr.heap.size := h1.out.lt
      go_wp2_with fail
      refine (valueWireT _ f HFO.out).mono ?_
      rintro e w2 ⟨rfl, hb2⟩
      have Bf : Hid (Blk w2 wr.heap.size 61 #[.string (strOfNums f.name), .int .i64 f.num, .int .i64 f.kind, .int .i64 f.ref, .int .i64 f.lab, .int .i64 f.one, .int .i64 f.key]) := hid ((Blk.new _ _ _).kept hb2)
      replace hb2 : Below wr.heap.size wr w2 := bl_then (by exact blBy) hb2
      replace Bx := hid (Bx.out.kept hb2)
      replace h1 := hid (h1.out.kept hb2)
      replace g1 := hid (g1.out.trans (LF.ofBelow hb2))
      have z2 : wr.heap.size < w2.heap.size := Bf.out.lt
      clear hb2 c0 c1 c2 c3 c4 c5 c6
      have xf := Bf.out.cellF
      have HCK : Hid (∀ W l', LyR W w.heap.size (w.heap.size + 1) l' → l'.length ≤ acc.length + 1 → LF w.heap.size (w.heap.size + 1) w2 W → Calls Tryz.prog 69 #[.pointer (some ⟨w.heap.size + 1, 0, none⟩), .pointer (some ⟨w.heap.size, 0, none⟩), .pointer (some ⟨wr.heap.size, 0, none⟩)] W fun e w' => e = .returned (.tuple #[]) ∧ LyR w' w.heap.size (w.heap.size + 1) (l' ++ valL fs f) ∧ LF w.heap.size (w.heap.size + 1) W w') := hid fun W l' q1 q2 q3 =>
        decC1 W w.heap.size (w.heap.size + 1) w.heap.size wr.heap.size l' f fs nm en (some ⟨fb, fo, none⟩) oa sa ra fc on oc sn sc rn rc (HR.out.keep ((g1.out.trans q3).keep (Nat.le_refl _)) (fun _ h => h)) q1 (by have := HNJ.out; omega) (Bx.out.lf q3 (by omega) (by decide)) (Bf.out.lf q3 (by omega) (by decide))
      go_wp2_with fail
      refine (layCaseT w2 w.heap.size (w.heap.size + 1) acc (valL fs f) f HFO.out (wireV f) (wireV_le f HFO.out) _ _ cfD1 HCK.out h1.out (by have := HNJ.out; have := valL_len fs f; omega)).mono ?_
      rintro e w3 ⟨rfl, h3, g3⟩
      replace Bx := hid (Bx.out.lf g3 (by omega) (by decide))
      replace Bf := hid (Bf.out.lf g3 (by omega) (by decide))
      replace g3 := hid (g1.out.trans g3)
      have z3 : wr.heap.size < w3.heap.size := Bf.out.lt
      replace h3 : Hid (LyR w3 w.heap.size (w.heap.size + 1) (case1 fs acc f)) := hid h3
      have HN1 := hid (case1_len fs acc f)
      clear h1 g1 xf HCK
      have xf := Bf.out.cellF
      go_wp2_with fail
      refine (takesRow2T f _).mono ?_
      rintro e w4 ⟨rfl, hb4⟩
      replace Bx := hid (Bx.out.kept hb4)
      replace Bf := hid (Bf.out.kept hb4)
      replace h3 := hid (h3.out.kept hb4)
      replace g3 := hid (g3.out.trans (LF.ofBelow hb4))
      have z4 : wr.heap.size < w4.heap.size := Bf.out.lt
      clear hb4 xf
      cases hrw : rowsV f with
      | false =>
        have HC2 : Hid (case2 (case1 fs acc f) f = case1 fs acc f) := hid (by unfold case2; rw [hrw]; rfl)
        go_wp2
        exact ⟨⟨j + 1, by simp, by omega, hid (by rw [HTK.out, HC2.out]; exact h3.out), g3, Bx⟩, by simp [numAt]; omega⟩
      | true =>
        have HC2 : Hid (case2 (case1 fs acc f) f = case1 fs acc f ++ caseL (case1 fs acc f).length (tagV f.num 2) (rowL f)) := hid (by unfold case2; rw [hrw]; rfl)
        have xf := Bf.out.cellF
        generalize case1 fs acc f = ac1 at *
        have HCK : Hid (∀ W l', LyR W w.heap.size (w.heap.size + 1) l' → l'.length ≤ ac1.length + 1 → LF w.heap.size (w.heap.size + 1) w4 W → Calls Tryz.prog 72 #[.pointer (some ⟨w.heap.size + 1, 0, none⟩), .pointer (some ⟨wr.heap.size, 0, none⟩)] W fun e w' => e = .returned (.tuple #[]) ∧ LyR w' w.heap.size (w.heap.size + 1) (l' ++ rowL f) ∧ LF w.heap.size (w.heap.size + 1) W w') := hid fun W l' q1 q2 q3 =>
          decC2 W w.heap.size (w.heap.size + 1) wr.heap.size l' f HFO.out q1 (by have := HNJ.out; have := HN1.out; omega) (Bf.out.lf q3 (by omega) (by decide))
        go_wp2_with fail
        refine (layCaseT w4 w.heap.size (w.heap.size + 1) ac1 (rowL f) f HFO.out 2 (by decide) _ _ cfD2 HCK.out h3.out (by have := HNJ.out; have := HN1.out; simp [rowL]; omega)).mono ?_
        rintro e w5 ⟨rfl, h5, g5⟩
        rw [← HC2.out, ← HTK.out] at h5
        replace Bx := hid (Bx.out.lf g5 (by omega) (by decide))
        replace g5 := hid (g3.out.trans g5)
        go_wp2
        exact ⟨⟨j + 1, by simp, by omega, hid h5, g5, Bx⟩, by simp [numAt]; omega⟩
    · have h2 : ¬ (j : Int) < (fs.length : Int) := by omega
      have e1 : fs.take j = fs := List.take_of_length_le (by omega)
      have HNJ := hid (HN.out j)
      have HX : Hid (decL fs = fs.foldl (decS fs) [insV 1 []] ++ [insV 13 [], insV 4 [0]]) := hid rfl
      rw [e1] at h1 HNJ
      generalize fs.foldl (decS fs) [insV 1 []] = acc at *
      go_wp2_with fail
      refine (lay0 _ _ _ _ 13 h1.out (by have := HNJ.out; omega)).mono ?_
      rintro e w2 ⟨rfl, h3, g3⟩
      replace g3 := hid (g1.out.trans g3)
      go_wp2_with fail
      refine (layA 4 [0] (by simp) h3 (by have := HNJ.out; simp; omega) _ (by exact blBy)).mono ?_
      rintro e w4 ⟨rfl, h5, g5⟩
      replace g5 := hid ((g3.out.trans g5).below (Nat.le_refl _))
      have e2 : acc ++ [insV 13 []] ++ [insV 4 [0]] = decL fs := by rw [HX.out]; simp
      rw [e2] at h5
      obtain ⟨a, c, B5, o5⟩ := h5.own
      have x5 := B5.cellF
      have z5 := B5.lt
      replace o5 := hid o5
      clear h5 B5 HX e2
      go_wp2
      go_ret
      exact ⟨a, c, rfl, o5.out, g5.out⟩
theorem encOfT (w : World) (fs : List FT) (nm : List Int) (en : Bool) (fa oa sa ra : Option Addr) (fc on oc sn sc rn rc : Nat) (hx : RowS w (· < w.heap.size) 7 (.slice fa fs.length fc) fs.length (fs.flatMap cFT)) (hf : ∀ f ∈ fs, FOk f) (hl : fs.length ≤ 128) : Calls Tryz.prog 40 #[.agg #[.string (strOfNums nm), .bool en, .slice fa fs.length fc, .slice oa on oc, .slice sa sn sc, .slice ra rn rc]] w (StepsR w (encL fs)) := by
  have HR := hid hx
  have HF := hid hf
  have HN : Hid (∀ j, ((fs.take j).foldl encS []).length ≤ 400) := hid fun j => by
    have h1 := encF_len (fs.take j) []
    have h2 : (fs.take j).length ≤ 128 := by rw [List.length_take]; omega
    simp only [List.length_nil] at h1
    omega
  clear hx hf
  go_enter Tryz.func40, Tryz.ntmps40
  go_wp2_with fail
  go_loopw [11] (fun r wr => ∃ j : Nat, r = .int .i64 j ∧ j ≤ fs.length ∧ Hid (LyR wr w.heap.size (w.heap.size + 1) ((fs.take j).foldl encS [])) ∧ Hid (LF w.heap.size (w.heap.size + 1) w wr)) (fun r wr => fs.length - numAt wr r)
  case atStart => exact ⟨0, rfl, by omega, hid ⟨by omega, .slice none 0 0, Blk.newAt (by simp), World.ownsRow_nil _ _ _ _⟩, hid (LF.ofBelow (by exact blBy))⟩
  case round =>
    obtain ⟨j, rfl, hj, h1, g1⟩ := hrel
    by_cases hlt : j < fs.length
    · have h2 : (j : Int) < (fs.length : Int) := by omega
      have h63 : (fs.length : Int) ≤ 9223372036854775807 := by omega
      obtain ⟨fb, fo, rfl, hc⟩ := rowAt (g := cFT) (fun _ => rfl) (HR.out.keep (g1.out.keep (Nat.le_refl _)) (fun _ h => h)) (i := j) (x := fs[j]) (by simp [hlt])
      have c0 := hc 0 _ rfl
      have c1 := hc 1 _ rfl
      have c2 := hc 2 _ rfl
      have c3 := hc 3 _ rfl
      have c4 := hc 4 _ rfl
      have c5 := hc 5 _ rfl
      have c6 := hc 6 _ rfl
      clear hc
      simp only [Nat.add_zero] at c0
      have hfb : fb < wr.heap.size := World.block_lt_of_cell? _ _ c0
      have HTK : Hid ((fs.take (j + 1)).foldl encS [] = encS ((fs.take j).foldl encS []) fs[j]) := hid (by rw [List.take_succ_eq_append_getElem hlt, List.foldl_append]; rfl)
      have HNJ := hid (HN.out j)
      have HFO := hid (HF.out _ (List.getElem_mem hlt))
      generalize fs[j] = f at *
      generalize (fs.take j).foldl encS [] = acc at *
      have HW := hid (wrtL_len f)
      have zr : w.heap.size + 1 < wr.heap.size := h1.out.lt
      by_cases h0 : f.lab = 0
      · skip
        have k0 : (f.lab == 0) = true := by simpa using h0
        have HU : Hid ((if f.lab = 0 then f.kind else 0) = f.kind) := hid (by rw [if_pos h0])
        clear h0
        go_wp2_with fail
        refine (layAheadT _ w.heap.size (w.heap.size + 1) acc 16 [f.num, 0, f.kind] (by simp) _ (Blk.newAt (by simp)) (h1.out.kept (by exact blBy)) (by have := HNJ.out; omega)).mono ?_
        rintro e w2 ⟨fv, rfl, ⟨bl, ba, rfl, A1, A2, n1, n2⟩, h2, g2⟩
        replace A1 := hid A1
        replace A2 := hid A2
        have Bf : Hid (Blk w2 wr.heap.size 61 #[.string (strOfNums f.name), .int .i64 f.num, .int .i64 f.kind, .int .i64 f.ref, .int .i64 f.lab, .int .i64 f.one, .int .i64 f.key]) := hid (((Blk.new _ _ _).kept (below_alloc _)).lf g2 (by omega) (by decide))
        replace h2 := hid h2
        replace g2 := hid (g1.out.trans (g2.pre (by exact blBy)))
        clear h1 g1 c0 c1 c2 c3 c4 c5 c6
        have xf := Bf.out.cellF
        have zf := Bf.out.lt
        go_wp2_with fail
        refine (layWrittenT _ w.heap.size (w.heap.size + 1) _ f HFO.out h2.out (by have := HNJ.out; simp; omega)).mono ?_
        rintro e w3 ⟨rfl, h3, g3⟩
        replace A1 := hid (A1.out.lf g3 n1 (by decide))
        replace A2 := hid (A2.out.lf g3 n2 (by decide))
        replace h3 := hid h3
        replace g3 := hid (g2.out.trans g3)
        clear h2 g2 xf zf
        go_wp2_with fail
        refine (arriveT _ w.heap.size (w.heap.size + 1) bl ba acc.length _ A1.out A2.out h3.out (by have := HNJ.out; have := HW.out; simp; omega) (by simp)).mono ?_
        rintro e w4 ⟨rfl, h4, g4⟩
        rw [set_mid acc (wrtL f) (insV 16 [f.num, 0, f.kind]) _ _ (by simp)] at h4
        replace h4 : Hid (LyR w4 w.heap.size (w.heap.size + 1) (encS acc f)) := hid (by unfold encS; rw [HU.out]; simpa [insV, Nat.add_assoc, Nat.add_comm] using h4)
        replace g4 := hid (g3.out.trans g4)
        rw [← HTK.out] at h4
        go_wp2
        exact ⟨⟨j + 1, by simp, by omega, h4, g4⟩, by simp [numAt]; omega⟩
      · skip
        have k0 : (f.lab == 0) = false := by simpa using h0
        have HU : Hid ((if f.lab = 0 then f.kind else 0) = 0) := hid (by rw [if_neg h0])
        clear h0
        go_wp2_with fail
        refine (layAheadT _ w.heap.size (w.heap.size + 1) acc 16 [f.num, 0, 0] (by simp) _ (Blk.newAt (by simp)) (h1.out.kept (by exact blBy)) (by have := HNJ.out; omega)).mono ?_
        rintro e w2 ⟨fv, rfl, ⟨bl, ba, rfl, A1, A2, n1, n2⟩, h2, g2⟩
        replace A1 := hid A1
        replace A2 := hid A2
        have Bf : Hid (Blk w2 wr.heap.size 61 #[.string (strOfNums f.name), .int .i64 f.num, .int .i64 f.kind, .int .i64 f.ref, .int .i64 f.lab, .int .i64 f.one, .int .i64 f.key]) := hid (((Blk.new _ _ _).kept (below_alloc _)).lf g2 (by omega) (by decide))
        replace h2 := hid h2
        replace g2 := hid (g1.out.trans (g2.pre (by exact blBy)))
        clear h1 g1 c0 c1 c2 c3 c4 c5 c6
        have xf := Bf.out.cellF
        have zf := Bf.out.lt
        go_wp2_with fail
        refine (layWrittenT _ w.heap.size (w.heap.size + 1) _ f HFO.out h2.out (by have := HNJ.out; simp; omega)).mono ?_
        rintro e w3 ⟨rfl, h3, g3⟩
        replace A1 := hid (A1.out.lf g3 n1 (by decide))
        replace A2 := hid (A2.out.lf g3 n2 (by decide))
        replace h3 := hid h3
        replace g3 := hid (g2.out.trans g3)
        clear h2 g2 xf zf
        go_wp2_with fail
        refine (arriveT _ w.heap.size (w.heap.size + 1) bl ba acc.length _ A1.out A2.out h3.out (by have := HNJ.out; have := HW.out; simp; omega) (by simp)).mono ?_
        rintro e w4 ⟨rfl, h4, g4⟩
        rw [set_mid acc (wrtL f) (insV 16 [f.num, 0, 0]) _ _ (by simp)] at h4
        replace h4 : Hid (LyR w4 w.heap.size (w.heap.size + 1) (encS acc f)) := hid (by unfold encS; rw [HU.out]; simpa [insV, Nat.add_assoc, Nat.add_comm] using h4)
        replace g4 := hid (g3.out.trans g4)
        rw [← HTK.out] at h4
        go_wp2
        exact ⟨⟨j + 1, by simp, by omega, h4, g4⟩, by simp [numAt]; omega⟩
    · have h2 : ¬ (j : Int) < (fs.length : Int) := by omega
      have e1 : fs.take j = fs := List.take_of_length_le (by omega)
      have HNJ := hid (HN.out j)
      have HX : Hid (encL fs = fs.foldl encS [] ++ [insV 23 [], insV 24 []]) := hid rfl
      rw [e1] at h1 HNJ
      generalize fs.foldl encS [] = acc at *
      go_wp2_with fail
      refine (lay0 _ _ _ _ 23 h1.out (by have := HNJ.out; omega)).mono ?_
      rintro e w2 ⟨rfl, h3, g3⟩
      replace g3 := hid (g1.out.trans g3)
      go_wp2_with fail
      refine (lay0 _ _ _ _ 24 h3 (by have := HNJ.out; simp; omega)).mono ?_
      rintro e w4 ⟨rfl, h5, g5⟩
      replace g5 := hid ((g3.out.trans g5).below (Nat.le_refl _))
      have e2 : acc ++ [insV 23 []] ++ [insV 24 []] = encL fs := by rw [HX.out]; simp
      rw [e2] at h5
      obtain ⟨a, c, B5, o5⟩ := h5.own
      have x5 := B5.cellF
      have z5 := B5.lt
      replace o5 := hid o5
      clear h5 B5 HX e2
      go_wp2
      go_ret
      exact ⟨a, c, rfl, o5.out, g5.out⟩
end Go.Proofs.YtdhkbdngmejklaaGreatDoor
