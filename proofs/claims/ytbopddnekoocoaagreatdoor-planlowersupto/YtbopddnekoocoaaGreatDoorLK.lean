/-
  The document's: a message's block.
-/
import Derived.Test.YtbopddnekoocoaaGreatDoorCKO
import Derived.Test.YtbopddnekoocoaaGreatDoorCLE
import Derived.Test.YtbopddnekoocoaaGreatDoorCGL
namespace Go.Proofs.YtbopddnekoocoaaGreatDoor
open Go.RowKit
set_option maxRecDepth 1000000
set_option linter.unusedVariables false
set_option linter.unusedSimpArgs false
set_option maxHeartbeats 20000000
theorem wrI (n : Int) (h : 0 ≤ n ∧ n ≤ 1000000000000) : IntKind.i64.wrap n = n := wraps_i64 _ (by omega) (by omega)
theorem lkW (a wv : Int) (D L : Nat) (h : 1 ≤ a ∧ a ≤ 536870911) (hw : 0 ≤ wv ∧ wv < 8) (hD : D ≤ 20000) (hL : L ≤ 131) : IntKind.i64.wrap (a * 8) = a * 8 ∧ IntKind.i64.wrap (a * 8 + wv) = a * 8 + wv ∧ IntKind.i64.wrap ((D : Int) + (L : Int)) = (D : Int) + (L : Int) ∧ IntKind.i64.wrap ((D : Int) + (L : Int) + 2) = (D : Int) + (L : Int) + 2 := ⟨wrI _ (by omega), wrI _ (by omega), wrI _ (by omega), wrI _ (by omega)⟩
theorem lkV (a r : Int) (D : Nat) (h : 1 ≤ a ∧ a ≤ 536870911) (hr : 0 ≤ r ∧ r < 128) (hD : D ≤ 20200) : IntKind.i64.wrap (a * 8) = a * 8 ∧ IntKind.i64.wrap (a * 8 + 2) = a * 8 + 2 ∧ IntKind.i64.wrap (r + 1) = r + 1 ∧ IntKind.i64.wrap ((D : Int) + 3) = (D : Int) + 3 := ⟨wrI _ (by omega), wrI _ (by omega), wrI _ (by omega), wrI _ (by omega)⟩
theorem lkF (D : Nat) (hD : D ≤ 20000) : wrap64 ((D : Int) + 1 + 1) = (D : Int) + 2 ∧ wrap64 ((D : Int) + 2 + 1) = (D : Int) + 3 ∧ wrap64 ((D : Int) + 1) = (D : Int) + 1 ∧ wrap64 ((D : Int) + 2) = (D : Int) + 2 := by
  unfold wrap64
  refine ⟨?_, ?_, ?_, ?_⟩ <;> omega
theorem lkE (a wv : Int) (D : Nat) (h : 1 ≤ a ∧ a ≤ 536870911) (hw : 0 ≤ wv ∧ wv < 8) (hD : D ≤ 20000) : IntKind.i64.wrap (a * 8) = a * 8 ∧ IntKind.i64.wrap (a * 8 + wv) = a * 8 + wv ∧ IntKind.i64.wrap ((D : Int) + 1) = (D : Int) + 1 ∧ IntKind.i64.wrap ((D : Int) + 2) = (D : Int) + 2 ∧ IntKind.i64.wrap ((D : Int) + 3) = (D : Int) + 3 ∧ IntKind.i64.wrap (a * 8 + 2) = a * 8 + 2 := ⟨wrI _ (by omega), wrI _ (by omega), wrI _ (by omega), wrI _ (by omega), wrI _ (by omega), wrI _ (by omega)⟩
theorem wrtL_is (f : FT) : wrtL f = if f.lab = 5 then [⟨22, f.num * 8 + wireV f, f.key, f.kind, f.ref⟩] else if f.lab = 3 then [⟨21, f.num * 8 + 2, f.kind, 0, 0⟩] else if f.lab = 2 then [⟨20, f.num * 8 + wireV f, f.kind, f.ref, 0⟩] else if f.kind = 17 then [⟨17, f.num * 8 + wireV f, 0, 0, 0⟩, ⟨19, f.ref, 0, 0, 0⟩] else [⟨17, f.num * 8 + wireV f, 0, 0, 0⟩, ⟨18, f.kind, 0, 0, 0⟩] := by
  unfold wrtL tagV
  split
  · rfl
  split
  · rfl
  split
  · rfl
  split <;> rfl
theorem case2_is (D : List IN) (f : FT) (sym : Int) (h : sym = if f.kind = 16 then f.ref + 1 else 0) : D ++ caseL D.length (tagV f.num 2) (rowL f) = D ++ [(⟨2, f.num * 8 + 2, (D.length : Int) + 3, 0, 0⟩ : IN), ⟨11, f.num, f.kind, sym, 0⟩, ⟨4, 0, 0, 0, 0⟩] := by
  unfold caseL tagV rowL
  rw [← h]
  simp [insV]
  omega
theorem case1_is (fs : List FT) (D : List IN) (f : FT) (L : List IN) (wv : Int) (hL : valL fs f = L) (hw : wireV f = wv) : D ++ [(⟨2, f.num * 8 + wv, (D.length : Int) + (L.length : Int) + 2, 0, 0⟩ : IN)] ++ L ++ [⟨4, 0, 0, 0, 0⟩] = case1 fs D f := by
  unfold case1 caseL tagV
  rw [hL, hw]
  have e : ((D.length + 1 + L.length + 1 : Nat) : Int) = (D.length : Int) + (L.length : Int) + 2 := by omega
  rw [e]
  simp [insV]
theorem lowMsgR (w : World) (l : List TV) (ta : Option Addr) (tc : Nat) (h : TbR w (.slice ta l.length tc) l) (k : Nat) (hk : k < l.length) (he : l[k].t.enum = false) (hN : l[k].t.fs.length ≤ 128) (hF : ∀ f ∈ l[k].t.fs, FOk f) : Calls Tryz.prog 11 #[.agg #[.slice ta l.length tc], .int .i64 (k : Int)] w (BlkA w ⟨decL l[k].t.fs, encL l[k].t.fs, []⟩) := by
  have HTY := hid (h.ty _ (List.getElem_mem hk))
  obtain ⟨_, _, e, hn63⟩ := rowS_sl h.row
  clear e
  have hl63 : (l.length : Int) ≤ 9223372036854775807 := by omega
  have hk1 : (k : Int) < (l.length : Int) := by omega
  obtain ⟨tb, tof, etb, hbl, c0, c1, c2, c3, c4, c5⟩ := row6 h.row hk
  subst etb
  clear h
  generalize l[k] = x at *
  obtain ⟨t, f, o, s, r⟩ := x
  obtain ⟨fa, fc, ef, -⟩ := rowS_sl HTY.out.f
  obtain ⟨oa, oc, eo, -⟩ := rowS_sl HTY.out.o
  obtain ⟨sa, sc, es, -⟩ := rowS_sl HTY.out.s
  obtain ⟨ra, rc, er, -⟩ := rowS_sl HTY.out.r
  dsimp only at ef eo es er he hN hF
  subst ef eo es er
  dsimp only at c0 c1 c2 c3 c4 c5
  rw [he] at c1
  have HR := hid HTY.out.f
  clear HTY he
  dsimp only at HR
  go_enter Tryz.func11, Tryz.ntmps11
  go_upto_region 3 with fail
  have BR : Hid (Blk ((((w.alloc (.cells #[.slice (some ⟨tb, tof, none⟩) l.length tc] 24)).alloc (.cells #[.slice none 0 0, .slice none 0 0, .slice none 0 0] 28)).alloc (.cells #[.string (strOfNums t.name), .bool false, .slice fa t.fs.length fc, .slice oa t.os.length oc, .slice sa t.ss.length sc, .slice ra t.rs.length rc] 50)).alloc (.cells #[.slice none 0 0, .slice none 0 0, .slice none 0 0] 28)) (w.heap.size + 1) 28 #[.slice none 0 0, .slice none 0 0, .slice none 0 0]) := hid (((Blk.newAt (by simp)).kept (below_alloc _)).kept (below_alloc _))
  have BX : Hid (Blk ((((w.alloc (.cells #[.slice (some ⟨tb, tof, none⟩) l.length tc] 24)).alloc (.cells #[.slice none 0 0, .slice none 0 0, .slice none 0 0] 28)).alloc (.cells #[.string (strOfNums t.name), .bool false, .slice fa t.fs.length fc, .slice oa t.os.length oc, .slice sa t.ss.length sc, .slice ra t.rs.length rc] 50)).alloc (.cells #[.slice none 0 0, .slice none 0 0, .slice none 0 0] 28)) (w.heap.size + 1 + 1) 50 #[.string (strOfNums t.name), .bool false, .slice fa t.fs.length fc, .slice oa t.os.length oc, .slice sa t.ss.length sc, .slice ra t.rs.length rc]) := hid ((Blk.newAt (by simp)).kept (below_alloc _))
  have BB : Hid (Blk ((((w.alloc (.cells #[.slice (some ⟨tb, tof, none⟩) l.length tc] 24)).alloc (.cells #[.slice none 0 0, .slice none 0 0, .slice none 0 0] 28)).alloc (.cells #[.string (strOfNums t.name), .bool false, .slice fa t.fs.length fc, .slice oa t.os.length oc, .slice sa t.ss.length sc, .slice ra t.rs.length rc] 50)).alloc (.cells #[.slice none 0 0, .slice none 0 0, .slice none 0 0] 28)) (w.heap.size + 1 + 1 + 1) 28 #[.slice none 0 0, .slice none 0 0, .slice none 0 0]) := hid (Blk.newAt (by simp))
  have HB : Hid (Below w.heap.size w ((((w.alloc (.cells #[.slice (some ⟨tb, tof, none⟩) l.length tc] 24)).alloc (.cells #[.slice none 0 0, .slice none 0 0, .slice none 0 0] 28)).alloc (.cells #[.string (strOfNums t.name), .bool false, .slice fa t.fs.length fc, .slice oa t.os.length oc, .slice sa t.ss.length sc, .slice ra t.rs.length rc] 50)).alloc (.cells #[.slice none 0 0, .slice none 0 0, .slice none 0 0] 28)) ∧ ((((w.alloc (.cells #[.slice (some ⟨tb, tof, none⟩) l.length tc] 24)).alloc (.cells #[.slice none 0 0, .slice none 0 0, .slice none 0 0] 28)).alloc (.cells #[.string (strOfNums t.name), .bool false, .slice fa t.fs.length fc, .slice oa t.os.length oc, .slice sa t.ss.length sc, .slice ra t.rs.length rc] 50)).alloc (.cells #[.slice none 0 0, .slice none 0 0, .slice none 0 0] 28)).heap.size = w.heap.size + 1 + 1 + 1 + 1) := hid ⟨by exact blBy, by simp⟩
  replace HR := hid (rowOldP (by decide) HR.out)
  replace HR := hid (HR.out.kept HB.out.1)
  clear c0 c1 c2 c3 c4 c5 hbl
  generalize ((((w.alloc (.cells #[.slice (some ⟨tb, tof, none⟩) l.length tc] 24)).alloc (.cells #[.slice none 0 0, .slice none 0 0, .slice none 0 0] 28)).alloc (.cells #[.string (strOfNums t.name), .bool false, .slice fa t.fs.length fc, .slice oa t.os.length oc, .slice sa t.ss.length sc, .slice ra t.rs.length rc] 50)).alloc (.cells #[.slice none 0 0, .slice none 0 0, .slice none 0 0] 28)) = W at *
  generalize eq : w.heap.size = q at *
  have xx := BX.out.cellF
  have zx := BX.out.lt
  have xb := BB.out.cellF
  have yb := BB.out.frz
  have zb := BB.out.lt
  go_upto_region 17 with fail
  have K0 : Hid (Keep (fun b => b ≠ q + 1 + 1 + 1 ∧ b < W.heap.size) W ((W.setCell ⟨q + 1 + 1 + 1, 0, none⟩ (.slice (some ⟨W.heap.size, 0, none⟩) 1 1)).alloc (.cells #[.int .i64 1, .int .i64 0, .int .i64 0, .int .i64 0, .int .i64 0] 59))) := hid ((Keep.setCell _ _ _ (fun h => h.1 rfl)).trans (Keep.ofBelow (below_alloc _)))
  have B0 : Hid (Blk ((W.setCell ⟨q + 1 + 1 + 1, 0, none⟩ (.slice (some ⟨W.heap.size, 0, none⟩) 1 1)).alloc (.cells #[.int .i64 1, .int .i64 0, .int .i64 0, .int .i64 0, .int .i64 0] 59)) (q + 1 + 1 + 1) 28 #[.slice (some ⟨W.heap.size, 0, none⟩) 1 1, .slice none 0 0, .slice none 0 0]) := hid (by have := (BB.out.set 0 (.slice (some ⟨W.heap.size, 0, none⟩) 1 1)).kept (below_alloc (.cells #[.int .i64 1, .int .i64 0, .int .i64 0, .int .i64 0, .int .i64 0] 59)); simpa using this)
  have O0 : Hid (((W.setCell ⟨q + 1 + 1 + 1, 0, none⟩ (.slice (some ⟨W.heap.size, 0, none⟩) 1 1)).alloc (.cells #[.int .i64 1, .int .i64 0, .int .i64 0, .int .i64 0, .int .i64 0] 59)).ownsRow W.heap.size 59 5 (.slice (some ⟨W.heap.size, 0, none⟩) 1 1) 1 ([insV 1 []].flatMap cIN)) := hid (by have := World.ownsRow_lit (base := W.heap.size) (e := 59) (size := 5) (W.setCell ⟨q + 1 + 1 + 1, 0, none⟩ (.slice (some ⟨W.heap.size, 0, none⟩) 1 1)) #[.int .i64 1, .int .i64 0, .int .i64 0, .int .i64 0, .int .i64 0] 1 (by simp) (by decide) rfl; simpa [insV, cIN] using this)
  clear xx zx xb yb zb BB
  generalize ((W.setCell ⟨q + 1 + 1 + 1, 0, none⟩ (.slice (some ⟨W.heap.size, 0, none⟩) 1 1)).alloc (.cells #[.int .i64 1, .int .i64 0, .int .i64 0, .int .i64 0, .int .i64 0] 59)) = V at *
  have HSB := hid (fun b (hb : b < w.heap.size) => (show b ≠ q + 1 + 1 + 1 ∧ b < W.heap.size by have := HB.out.2; omega))
  rw [eq] at HSB
  have hN63 : (t.fs.length : Int) ≤ 9223372036854775807 := by omega
  replace hF := hid hF
  go_wp2_with fail
  go_loopw [11] (fun r wr => ∃ (j : Nat) (da : Option Addr) (dc : Nat), r = .int .i64 j ∧ j ≤ t.fs.length ∧ Hid (Blk wr (q + 1 + 1 + 1) 28 #[.slice da ((t.fs.take j).foldl (decS t.fs) [insV 1 []]).length dc, .slice none 0 0, .slice none 0 0]) ∧ Hid (wr.ownsRow W.heap.size 59 5 (.slice da ((t.fs.take j).foldl (decS t.fs) [insV 1 []]).length dc) ((t.fs.take j).foldl (decS t.fs) [insV 1 []]).length (((t.fs.take j).foldl (decS t.fs) [insV 1 []]).flatMap cIN)) ∧ Hid (Keep (fun b => b ≠ q + 1 + 1 + 1 ∧ b < W.heap.size) W wr)) (fun r wr => t.fs.length - numAt wr r)
  case atStart => exact ⟨0, _, _, rfl, by omega, B0, O0, K0⟩
  case round =>
    clear B0 O0 K0
    obtain ⟨j, da, dc, rfl, hj, BB, HO, HK⟩ := hrel
    have BX1 := hid (BX.out.keep HK.out (by have := HB.out.2; omega))
    have HR1 := hid (HR.out.keep HK.out HSB.out)
    have xx := BX1.out.cellF
    have zx := BX1.out.lt
    by_cases hlt : j < t.fs.length
    · have j1 : (j : Int) < (t.fs.length : Int) := by omega
      obtain ⟨sb, so, esb, hc⟩ := rowAt (g := cFT) (fun _ => rfl) HR1.out (i := j) (x := t.fs[j]) (by simp [hlt])
      subst esb
      have s0 := hc 0 _ rfl
      have s1 := hc 1 _ rfl
      have s2 := hc 2 _ rfl
      have s3 := hc 3 _ rfl
      have s4 := hc 4 _ rfl
      have s5 := hc 5 _ rfl
      have s6 := hc 6 _ rfl
      clear hc
      simp only [Nat.add_zero] at s0
      have hsb : sb < wr.heap.size := World.block_lt_of_cell? _ _ s0
      have HTK : Hid ((t.fs.take (j + 1)).foldl (decS t.fs) [insV 1 []] = decS t.fs ((t.fs.take j).foldl (decS t.fs) [insV 1 []]) t.fs[j]) := hid (by rw [List.take_succ_eq_append_getElem hlt, List.foldl_append]; rfl)
      have HFO := hid (hF.out _ (List.getElem_mem hlt))
      have HDL : Hid (((t.fs.take j).foldl (decS t.fs) [insV 1 []]).length ≤ 20000) := hid (by
        have h1 := decF_len t.fs (t.fs.take j) [insV 1 []]
        have h2 : (t.fs.take j).length * (t.fs.length + 8) ≤ 128 * 136 := Nat.mul_le_mul (by rw [List.length_take]; omega) (by omega)
        simp only [List.length_cons, List.length_nil] at h1
        omega)
      generalize t.fs[j] = f at *
      generalize (t.fs.take j).foldl (decS t.fs) [insV 1 []] = D at *
      go_upto_region 21 with fail
      have BF : Hid (Blk (wr.alloc (.cells #[.string (strOfNums f.name), .int .i64 f.num, .int .i64 f.kind, .int .i64 f.ref, .int .i64 f.lab, .int .i64 f.one, .int .i64 f.key] 52)) wr.heap.size 52 #[.string (strOfNums f.name), .int .i64 f.num, .int .i64 f.kind, .int .i64 f.ref, .int .i64 f.lab, .int .i64 f.one, .int .i64 f.key]) := hid (Blk.new _ _ _)
      have hq3 : q + 1 + 1 + 1 < W.heap.size := by have := HB.out.2; omega
      have hWs : W.heap.size ≤ wr.heap.size := HK.out.size
      have hpq : W.heap.size ≤ wr.heap.size := hWs
      replace BX1 := hid (BX1.out.kept (below_alloc (.cells #[.string (strOfNums f.name), .int .i64 f.num, .int .i64 f.kind, .int .i64 f.ref, .int .i64 f.lab, .int .i64 f.one, .int .i64 f.key] 52)))
      replace BB := hid (BB.out.kept (below_alloc (.cells #[.string (strOfNums f.name), .int .i64 f.num, .int .i64 f.kind, .int .i64 f.ref, .int .i64 f.lab, .int .i64 f.one, .int .i64 f.key] 52)))
      replace HO := hid (own_kept HO.out (below_alloc (.cells #[.string (strOfNums f.name), .int .i64 f.num, .int .i64 f.kind, .int .i64 f.ref, .int .i64 f.lab, .int .i64 f.one, .int .i64 f.key] 52)))
      replace HR1 := hid (HR1.out.kept (below_alloc (.cells #[.string (strOfNums f.name), .int .i64 f.num, .int .i64 f.kind, .int .i64 f.ref, .int .i64 f.lab, .int .i64 f.one, .int .i64 f.key] 52)))
      replace HK : Hid (Keep (fun b => b ≠ q + 1 + 1 + 1 ∧ b < W.heap.size) W (wr.alloc (.cells #[.string (strOfNums f.name), .int .i64 f.num, .int .i64 f.kind, .int .i64 f.ref, .int .i64 f.lab, .int .i64 f.one, .int .i64 f.key] 52))) := hid (HK.out.trans (Keep.ofBelow (below_alloc _)))
      clear s0 s1 s2 s3 s4 s5 s6 xx zx hsb
      generalize wr.alloc (.cells #[.string (strOfNums f.name), .int .i64 f.num, .int .i64 f.kind, .int .i64 f.ref, .int .i64 f.lab, .int .i64 f.one, .int .i64 f.key] 52) = U at *
      generalize wr.heap.size = p at *
      have xx := BX1.out.cellF
      have zx := BX1.out.lt
      have xf := BF.out.cellF
      have zf := BF.out.lt
      have HTN := hid (takenR U t.fs f (strOfNums t.name) false (some ⟨sb, so, none⟩) oa sa ra fc t.os.length oc t.ss.length sc t.rs.length rc (HR1.out.weak (fun _ _ => trivial)) hN)
      go_upto_region 22 with (first | (go_at_call 24; refine HTN.out.mono ?_; rintro e Y ⟨la, lc, rfl, HOL, hbm⟩))
      have HLL : Hid ((valL t.fs f).length ≤ 131) := hid (by have := valL_len t.fs f; omega)
      have hUs : W.heap.size ≤ U.heap.size := by have := BF.out.lt; omega
      have hpU : p < U.heap.size := BF.out.lt
      have HLR : Hid (RowS Y (fun b => U.heap.size ≤ b ∧ b < Y.heap.size) 5 (.slice la (valL t.fs f).length lc) (valL t.fs f).length ((valL t.fs f).flatMap cIN)) := hid (own_row HOL.out (fun k hk => ⟨(own_type HOL.out hk).1, (own_type HOL.out hk).2.1⟩))
      have HDO : Hid (∀ k, (Value.slice da D.length dc).ownBlock = some k → k < U.heap.size) := hid (fun k hk => (own_type HO.out hk).2.1)
      replace HO := hid (own_kept HO.out hbm.out)
      replace BB := hid (BB.out.kept hbm.out)
      replace BX1 := hid (BX1.out.kept hbm.out)
      replace BF := hid (BF.out.kept hbm.out)
      replace HK : Hid (Keep (fun b => b ≠ q + 1 + 1 + 1 ∧ b < W.heap.size) W Y) := hid (HK.out.trans (Keep.ofBelow hbm.out))
      have hYs : U.heap.size ≤ Y.heap.size := hbm.out.size
      clear HTN HOL hbm xx zx xf zf HR1
      have HWI : Hid (∀ V, Calls Tryz.prog 25 #[.agg #[.string (strOfNums f.name), .int .i64 f.num, .int .i64 f.kind, .int .i64 f.ref, .int .i64 f.lab, .int .i64 f.one, .int .i64 f.key]] V fun e w' => e = .returned (.int .i64 (wireV f)) ∧ Below V.heap.size V w') := hid fun V => by
        have := wireDR f V
        rw [wireD_eq f HFO.out] at this
        exact this
      have HWL := hid (wireV_le f HFO.out)
      generalize eL : valL t.fs f = L at *
      generalize ew : wireV f = wv at *
      replace eL := hid eL
      replace ew := hid ew
      have HAP : Hid (∀ V, Below Y.heap.size Y V → ∃ (a2 : Option Addr) (c2 : Nat) (x : World), Hid ((Builtin.append_ #[25, 25] 25 #[.slice da D.length dc, .slice (some ⟨V.heap.size, 0, none⟩) 1 1]).run Tryz.prog (V.alloc (.cells #[.int .i64 2, .int .i64 (f.num * 8 + wv), .int .i64 ((D.length : Int) + (L.length : Int) + 2), .int .i64 0, .int .i64 0] 59)) = .ok (.slice a2 (D.length + 1) c2) x) ∧ Hid (Blk x (q + 1 + 1 + 1) 28 #[.slice da D.length dc, .slice none 0 0, .slice none 0 0]) ∧ Hid (Blk (x.setCell ⟨q + 1 + 1 + 1, 0, none⟩ (.slice a2 (D.length + 1) c2)) (q + 1 + 1 + 1) 28 #[.slice a2 (D.length + 1) c2, .slice none 0 0, .slice none 0 0] ∧ (x.setCell ⟨q + 1 + 1 + 1, 0, none⟩ (.slice a2 (D.length + 1) c2)).ownsRow W.heap.size 59 5 (.slice a2 (D.length + 1) c2) (D ++ [(⟨2, f.num * 8 + wv, (D.length : Int) + (L.length : Int) + 2, 0, 0⟩ : IN)]).length ((D ++ [(⟨2, f.num * 8 + wv, (D.length : Int) + (L.length : Int) + 2, 0, 0⟩ : IN)]).flatMap cIN) ∧ RowS (x.setCell ⟨q + 1 + 1 + 1, 0, none⟩ (.slice a2 (D.length + 1) c2)) (fun b => U.heap.size ≤ b ∧ b < Y.heap.size) 5 (.slice la L.length lc) L.length (L.flatMap cIN) ∧ Keep (fun b => b ≠ q + 1 + 1 + 1 ∧ b < W.heap.size) W (x.setCell ⟨q + 1 + 1 + 1, 0, none⟩ (.slice a2 (D.length + 1) c2)) ∧ Keep (fun b => b = p) Y x)) := hid fun V hV => by
        have hO := own_kept HO.out hV
        obtain ⟨a2, c2, x, r1, r2, r3⟩ := appendPI W.heap.size _ D ⟨2, f.num * 8 + wv, (D.length : Int) + (L.length : Int) + 2, 0, 0⟩ V hO (by have := hV.size; omega) (by have := HDL.out; omega)
        have b1 := grow_blk r3.out hO (BB.out.kept hV) (by decide)
        have kG : ∀ g : Nat → Prop, (∀ k, g k → k < W.heap.size ∨ U.heap.size ≤ k) → Keep g V x := fun g hg => Keep.ofGrow r3.out (fun k hk e => by
          have h1 := HDO.out k e
          have h2 := (own_type hO e).1
          have := hg k hk
          omega)
        refine ⟨a2, c2, x, r1, hid b1, hid ⟨(b1.set 0 _).is (by simp), own_set r2.out hq3, ?_, ?_, ?_⟩⟩
        · refine ((HLR.out.keep (f := fun b => U.heap.size ≤ b) (Keep.ofBelow hV) (fun k hk => hk.1)).keep (kG (fun b => U.heap.size ≤ b) (fun k hk => .inr hk)) (fun k hk => hk.1)).keep (f := fun b => U.heap.size ≤ b) (Keep.setCell _ _ _ (by show ¬ U.heap.size ≤ q + 1 + 1 + 1; omega)) (fun k hk => hk.1)
        · exact ((HK.out.trans (Keep.ofBelow hV)).trans (kG _ (fun k hk => .inl hk.2))).trans (Keep.setCell _ _ _ (fun h => h.1 rfl))
        · exact (Keep.ofBelow hV).trans (Keep.ofGrow r3.out (fun k hk e => by subst hk; exact own_ne hO (BF.out.kept hV) (by decide) e))
      have xx := BX1.out.cellF
      have zx := BX1.out.lt
      have xf := BF.out.cellF
      have zf := BF.out.lt
      have xb := BB.out.cellF
      have yb := BB.out.frz
      have zb := BB.out.lt
      obtain ⟨w1, w2, w3, w4⟩ := lkW f.num wv D.length L.length HFO.out.num HWL.out HDL.out HLL.out
      have hne3 : p ≠ q + 1 + 1 + 1 := by omega
      refine wp_regionL (S := SL (fun W => ∀ i, W.cell? ⟨p, i, none⟩ = #[.string (strOfNums f.name), .int .i64 f.num, .int .i64 f.kind, .int .i64 f.ref, .int .i64 f.lab, .int .i64 f.one, .int .i64 f.key][i]?) (fun W => W.cell? ⟨q + 1 + 1 + 1, 0, none⟩ = some (.slice da D.length dc)) 19) (by kernel_rfl) ?_ (fun hHeld => ?_)
      · exact SL.of (BF.out.kept (below_drew1 _)).cellF ((BB.out.kept (below_drew1 _)).cell 0 _ rfl)
      refine takeL0 0 (v := ?_) rfl (by kernel_rfl) (by kernel_rfl) (by kernel_rfl) (fun _ _ _ h => h) (by kernel_rfl) (Or.inl ⟨by rfl, ?_⟩) hHeld (fun hHeld => ?_)
      rotate_left
      · (intro w hSw; (try obtain ⟨hSw, hSx⟩ := hSw); (try dsimp only at hSw); (try dsimp only at hSx); go_simp; (try with_reducible rfl))
      try simp only [Act.put, List.getElem_toArray, List.getElem_cons_succ, List.getElem_cons_zero, List.setIfInBounds_toArray, List.set_cons_zero, List.set_cons_succ]
      refine takeL1 1 (v := ?_) rfl rfl (by kernel_rfl) (by kernel_rfl) (by kernel_rfl) (by kernel_rfl) (by kernel_rfl) (fun _ _ _ h => h) (by kernel_rfl) (Or.inl ⟨by rfl, ?_⟩) hHeld (fun hHeld => ?_)
      rotate_left
      · (intro w hSw; (try obtain ⟨hSw, hSx⟩ := hSw); (try dsimp only at hSw); (try dsimp only at hSx); go_simp; (try with_reducible rfl))
      try simp only [Act.put, List.getElem_toArray, List.getElem_cons_succ, List.getElem_cons_zero, List.setIfInBounds_toArray, List.set_cons_zero, List.set_cons_succ]
      refine takeL0 2 (v := ?_) rfl (by kernel_rfl) (by kernel_rfl) (by kernel_rfl) (fun _ _ _ h => h) (by kernel_rfl) (Or.inl ⟨by rfl, ?_⟩) hHeld (fun hHeld => ?_)
      rotate_left
      · (intro w hSw; (try obtain ⟨hSw, hSx⟩ := hSw); (try dsimp only at hSw); (try dsimp only at hSx); go_simp; (try with_reducible rfl))
      try simp only [Act.put, List.getElem_toArray, List.getElem_cons_succ, List.getElem_cons_zero, List.setIfInBounds_toArray, List.set_cons_zero, List.set_cons_succ]
      refine takeL0 3 (v := ?_) rfl (by kernel_rfl) (by kernel_rfl) (by kernel_rfl) (fun _ _ _ h => h) (by kernel_rfl) (Or.inl ⟨by rfl, ?_⟩) hHeld (fun hHeld => ?_)
      rotate_left
      · (intro w hSw; (try obtain ⟨hSw, hSx⟩ := hSw); (try dsimp only at hSw); (try dsimp only at hSx); go_simp; (try with_reducible rfl))
      try simp only [Act.put, List.getElem_toArray, List.getElem_cons_succ, List.getElem_cons_zero, List.setIfInBounds_toArray, List.set_cons_zero, List.set_cons_succ]
      refine takeL0 4 (v := ?_) rfl (by kernel_rfl) (by kernel_rfl) (by kernel_rfl) (fun _ _ _ h => h) (by kernel_rfl) (Or.inl ⟨by rfl, ?_⟩) hHeld (fun hHeld => ?_)
      rotate_left
      · (intro w hSw; (try obtain ⟨hSw, hSx⟩ := hSw); (try dsimp only at hSw); (try dsimp only at hSx); go_simp; (try with_reducible rfl))
      try simp only [Act.put, List.getElem_toArray, List.getElem_cons_succ, List.getElem_cons_zero, List.setIfInBounds_toArray, List.set_cons_zero, List.set_cons_succ]
      refine takeL0 5 (v := ?_) rfl (by kernel_rfl) (by kernel_rfl) (by kernel_rfl) (fun _ _ _ h => h) (by kernel_rfl) (Or.inl ⟨by rfl, ?_⟩) hHeld (fun hHeld => ?_)
      rotate_left
      · (intro w hSw; (try obtain ⟨hSw, hSx⟩ := hSw); (try dsimp only at hSw); (try dsimp only at hSx); go_simp; (try with_reducible rfl))
      try simp only [Act.put, List.getElem_toArray, List.getElem_cons_succ, List.getElem_cons_zero, List.setIfInBounds_toArray, List.set_cons_zero, List.set_cons_succ]
      refine takeL0 8 (v := ?_) rfl (by kernel_rfl) (by kernel_rfl) (by kernel_rfl) (fun _ _ _ h => h) (by kernel_rfl) (Or.inl ⟨by rfl, ?_⟩) hHeld (fun hHeld => ?_)
      rotate_left
      · (intro w hSw; (try obtain ⟨hSw, hSx⟩ := hSw); (try dsimp only at hSw); (try dsimp only at hSx); go_simp; (try with_reducible rfl))
      try simp only [Act.put, List.getElem_toArray, List.getElem_cons_succ, List.getElem_cons_zero, List.setIfInBounds_toArray, List.set_cons_zero, List.set_cons_succ]
      refine takeL1 9 (v := ?_) rfl rfl (by kernel_rfl) (by kernel_rfl) (by kernel_rfl) (by kernel_rfl) (by kernel_rfl) (fun _ _ _ h => h) (by kernel_rfl) (Or.inl ⟨by rfl, ?_⟩) hHeld (fun hHeld => ?_)
      rotate_left
      · (intro w hSw; (try obtain ⟨hSw, hSx⟩ := hSw); (try dsimp only at hSw); (try dsimp only at hSx); go_simp; (try with_reducible rfl))
      try simp only [Act.put, List.getElem_toArray, List.getElem_cons_succ, List.getElem_cons_zero, List.setIfInBounds_toArray, List.set_cons_zero, List.set_cons_succ]
      refine takeL0 10 (v := ?_) rfl (by kernel_rfl) (by kernel_rfl) (by kernel_rfl) (fun _ _ _ h => h) (by kernel_rfl) (Or.inl ⟨by rfl, ?_⟩) hHeld (fun hHeld => ?_)
      rotate_left
      · (intro w hSw; (try obtain ⟨hSw, hSx⟩ := hSw); (try dsimp only at hSw); (try dsimp only at hSx); go_simp; (try with_reducible rfl))
      try simp only [Act.put, List.getElem_toArray, List.getElem_cons_succ, List.getElem_cons_zero, List.setIfInBounds_toArray, List.set_cons_zero, List.set_cons_succ]
      refine takeL0 11 (v := ?_) rfl (by kernel_rfl) (by kernel_rfl) (by kernel_rfl) (fun _ _ _ h => h) (by kernel_rfl) (Or.inl ⟨by rfl, ?_⟩) hHeld (fun hHeld => ?_)
      rotate_left
      · (intro w hSw; (try obtain ⟨hSw, hSx⟩ := hSw); (try dsimp only at hSw); (try dsimp only at hSx); go_simp; (try with_reducible rfl))
      try simp only [Act.put, List.getElem_toArray, List.getElem_cons_succ, List.getElem_cons_zero, List.setIfInBounds_toArray, List.set_cons_zero, List.set_cons_succ]
      refine takeL0 12 (v := ?_) rfl (by kernel_rfl) (by kernel_rfl) (by kernel_rfl) (fun _ _ _ h => h) (by kernel_rfl) (Or.inl ⟨by rfl, ?_⟩) hHeld (fun hHeld => ?_)
      rotate_left
      · (intro w hSw; (try obtain ⟨hSw, hSx⟩ := hSw); (try dsimp only at hSw); (try dsimp only at hSx); go_simp; (try with_reducible rfl))
      try simp only [Act.put, List.getElem_toArray, List.getElem_cons_succ, List.getElem_cons_zero, List.setIfInBounds_toArray, List.set_cons_zero, List.set_cons_succ]
      refine takeL0 13 (v := ?_) rfl (by kernel_rfl) (by kernel_rfl) (by kernel_rfl) (fun _ _ _ h => h) (by kernel_rfl) (Or.inl ⟨by rfl, ?_⟩) hHeld (fun hHeld => ?_)
      rotate_left
      · (intro w hSw; (try obtain ⟨hSw, hSx⟩ := hSw); (try dsimp only at hSw); (try dsimp only at hSx); go_simp; (try with_reducible rfl))
      try simp only [Act.put, List.getElem_toArray, List.getElem_cons_succ, List.getElem_cons_zero, List.setIfInBounds_toArray, List.set_cons_zero, List.set_cons_succ]
      refine takeL0 14 (v := ?_) rfl (by kernel_rfl) (by kernel_rfl) (by kernel_rfl) (fun _ _ _ h => h) (by kernel_rfl) (Or.inl ⟨by rfl, ?_⟩) hHeld (fun hHeld => ?_)
      rotate_left
      · (intro w hSw; (try obtain ⟨hSw, hSx⟩ := hSw); (try dsimp only at hSw); (try dsimp only at hSx); go_simp; (try with_reducible rfl))
      try simp only [Act.put, List.getElem_toArray, List.getElem_cons_succ, List.getElem_cons_zero, List.setIfInBounds_toArray, List.set_cons_zero, List.set_cons_succ]
      refine wpAnyL_ready (rs := [6]) (by kernel_rfl) (by simp) ?_
      refine AllReadyL.cons rfl (fun K hK => ?_) AllReadyL.nil
      go_simp
      go_wp2_with (go_at_call 25; refine (HWI.out _).mono ?_; rintro e u1 ⟨rfl, hbx⟩)
      have HU1 : Hid (Below Y.heap.size Y u1) := hid (bl_then (below_drew1 _) hbx)
      clear hbx
      refine hK.out _ _ ?_ (fun hHeld => ?_)
      · exact SL.of (BF.out.kept HU1.out).cellF ((BB.out.kept HU1.out).cell 0 _ rfl)
      clear hK K
      try simp only [Act.put, List.getElem_toArray, List.getElem_cons_succ, List.getElem_cons_zero, List.setIfInBounds_toArray, List.set_cons_zero, List.set_cons_succ]
      obtain ⟨a3, c3, x3, HRUN, HB3, HE⟩ := HAP.out u1 HU1.out
      refine takeL0 7 (v := ?_) rfl (by kernel_rfl) (by kernel_rfl) (by kernel_rfl) (fun _ _ _ h => h) (by kernel_rfl) (Or.inl ⟨by rfl, ?_⟩) hHeld (fun hHeld => ?_)
      rotate_left
      · (intro w hSw; (try obtain ⟨hSw, hSx⟩ := hSw); (try dsimp only at hSw); (try dsimp only at hSx); go_simp; (try with_reducible rfl))
      try simp only [Act.put, List.getElem_toArray, List.getElem_cons_succ, List.getElem_cons_zero, List.setIfInBounds_toArray, List.set_cons_zero, List.set_cons_succ]
      refine takeL0 15 (v := ?_) rfl (by kernel_rfl) (by kernel_rfl) (by kernel_rfl) (fun _ _ _ h => h) (by kernel_rfl) (Or.inl ⟨by rfl, ?_⟩) hHeld (fun hHeld => ?_)
      rotate_left
      · (intro w hSw; (try obtain ⟨hSw, hSx⟩ := hSw); (try dsimp only at hSw); (try dsimp only at hSx); go_simp; (try with_reducible rfl))
      try simp only [Act.put, List.getElem_toArray, List.getElem_cons_succ, List.getElem_cons_zero, List.setIfInBounds_toArray, List.set_cons_zero, List.set_cons_succ]
      refine wpAnyL_ready (rs := [16]) (by kernel_rfl) (by simp) ?_
      refine AllReadyL.cons rfl (fun K hK => ?_) AllReadyL.nil
      go_simp
      refine hK.out _ _ ?_ (fun hHeld => ?_)
      · exact SL.of ((BF.out.kept HU1.out).kept (below_alloc _)).cellF (((BB.out.kept HU1.out).kept (below_alloc _)).cell 0 _ rfl)
      clear hK K
      try simp only [Act.put, List.getElem_toArray, List.getElem_cons_succ, List.getElem_cons_zero, List.setIfInBounds_toArray, List.set_cons_zero, List.set_cons_succ]
      refine wpAnyL_ready (rs := [17]) (by kernel_rfl) (by simp) ?_
      refine AllReadyL.cons rfl (fun K hK => ?_) AllReadyL.nil
      refine step_append_ran rfl _ _ 25 25 rfl rfl _ _ (.slice a3 (D.length + 1) c3) x3 rfl rfl HRUN.out ?_
      refine hK.out _ _ ?_ (fun hHeld => ?_)
      · exact SL.of (BF.out.keep HE.out.2.2.2.2 rfl).cellF (HB3.out.cell 0 _ rfl)
      clear hK K
      try simp only [Act.put, List.getElem_toArray, List.getElem_cons_succ, List.getElem_cons_zero, List.setIfInBounds_toArray, List.set_cons_zero, List.set_cons_succ]
      refine takeL0 18 (v := ?_) rfl (by kernel_rfl) (by kernel_rfl) (by kernel_rfl) (fun _ _ _ h => h) (by kernel_rfl) (Or.inl ⟨by rfl, ?_⟩) hHeld (fun hHeld => ?_)
      rotate_left
      · (intro w hSw; (try obtain ⟨hSw, hSx⟩ := hSw); (try dsimp only at hSw); (try dsimp only at hSx); go_simp; (try with_reducible rfl))
      try simp only [Act.put, List.getElem_toArray, List.getElem_cons_succ, List.getElem_cons_zero, List.setIfInBounds_toArray, List.set_cons_zero, List.set_cons_succ]
      have xb3 := HB3.out.cellF
      have yb3 := HB3.out.frz
      have zb3 := HB3.out.lt
      refine wpAnyL_ready (rs := [19]) (by kernel_rfl) (by simp) ?_
      refine AllReadyL.cons rfl (fun K hK => ?_) AllReadyL.nil
      go_simp
      refine hK.out _ _ ?_ (fun hHeld => ?_)
      · exact SL.late ((BF.out.keep HE.out.2.2.2.2 rfl).other hne3 _).cellF (by kernel_rfl)
      clear hK K
      try simp only [Act.put, List.getElem_toArray, List.getElem_cons_succ, List.getElem_cons_zero, List.setIfInBounds_toArray, List.set_cons_zero, List.set_cons_succ]
      refine wpAnyL_done (by kernel_rfl) ?_ _
      obtain ⟨BB1, HO1, HL1, HK1, HKp⟩ := HE.out
      have BF1 : Hid (Blk (x3.setCell ⟨q + 1 + 1 + 1, 0, none⟩ (.slice a3 (D.length + 1) c3)) p 52 #[.string (strOfNums f.name), .int .i64 f.num, .int .i64 f.kind, .int .i64 f.ref, .int .i64 f.lab, .int .i64 f.one, .int .i64 f.key]) := hid ((BF.out.keep HKp rfl).other hne3 _)
      clear HRUN HB3 HE xb3 yb3 zb3 HAP HU1 hHeld xx zx xf zf xb yb zb w1 w2 w3 w4 HO BB HLR HDO HK HKp BF BX1 HWI
      obtain ⟨D1, eD1⟩ : ∃ D1, D1 = D ++ [(⟨2, f.num * 8 + wv, (D.length : Int) + (L.length : Int) + 2, 0, 0⟩ : IN)] := ⟨_, rfl⟩
      rw [← eD1] at HO1
      have hD1 : D1.length = D.length + 1 := by rw [eD1]; simp
      rw [← hD1] at BB1 HO1 BF1 HL1 HK1
      replace BB1 := hid BB1
      replace HO1 := hid HO1
      replace HL1 := hid HL1
      replace HK1 := hid HK1
      have eD := hid eD1
      have HD1 := hid hD1
      clear eD1
      rw [← hD1]
      generalize x3.setCell ⟨q + 1 + 1 + 1, 0, none⟩ (.slice a3 D1.length c3) = A1 at *
      clear hD1
      have hWA : W.heap.size ≤ A1.heap.size := HK1.out.size
      obtain ⟨a4, c4, x4, R4, O4, G4⟩ := appendPS W.heap.size (.slice a3 D1.length c3) D1 L la lc A1 HO1.out (HL1.out.weak (fun _ _ => trivial)) hWA (by have := HDL.out; have := HLL.out; have := HD1.out; omega)
      have hW4 : W.heap.size ≤ x4.heap.size := Nat.le_trans hWA G4.out.size
      obtain ⟨a5, c5, x5, R5, O5, G5⟩ := appendPI W.heap.size (.slice a4 (D1.length + L.length) c4) (D1 ++ L) ⟨4, 0, 0, 0, 0⟩ x4 O4.out hW4 (by have := HDL.out; have := HLL.out; have := HD1.out; rw [List.length_append]; omega)
      have B4 := grow_blk G4.out HO1.out BB1.out (by decide)
      have B5 := grow_blk G5.out O4.out B4 (by decide)
      have F5 := grow_blk G5.out O4.out (grow_blk G4.out HO1.out BF1.out (by decide)) (by decide)
      have K5 : Keep (fun b => b ≠ q + 1 + 1 + 1 ∧ b < W.heap.size) W x5 := (HK1.out.trans (Keep.ofGrow G4.out (fun k hk e => by have := (own_type HO1.out e).1; have := hk.2; omega))).trans (Keep.ofGrow G5.out (fun k hk e => by have := (own_type O4.out e).1; have := hk.2; omega))
      obtain ⟨D2, eD2⟩ : ∃ D2, D2 = D1 ++ L ++ [(⟨4, 0, 0, 0, 0⟩ : IN)] := ⟨_, rfl⟩
      rw [← eD2] at O5
      have hD2 : D2.length = (D1 ++ L).length + 1 := by rw [eD2, List.length_append]; rfl
      rw [← hD2] at R5 O5
      have BB2 : Hid (Blk (x5.setCell ⟨q + 1 + 1 + 1, 0, none⟩ (.slice a5 D2.length c5)) (q + 1 + 1 + 1) 28 #[.slice a5 D2.length c5, .slice none 0 0, .slice none 0 0]) := hid ((B5.set 0 _).is (by simp))
      have HO2 : Hid ((x5.setCell ⟨q + 1 + 1 + 1, 0, none⟩ (.slice a5 D2.length c5)).ownsRow W.heap.size 59 5 (.slice a5 D2.length c5) D2.length (D2.flatMap cIN)) := hid (own_set O5.out hq3)
      have HK2 : Hid (Keep (fun b => b ≠ q + 1 + 1 + 1 ∧ b < W.heap.size) W (x5.setCell ⟨q + 1 + 1 + 1, 0, none⟩ (.slice a5 D2.length c5))) := hid (K5.trans (Keep.setCell _ _ _ (fun h => h.1 rfl)))
      have BF2 : Hid (Blk (x5.setCell ⟨q + 1 + 1 + 1, 0, none⟩ (.slice a5 D2.length c5)) p 52 #[.string (strOfNums f.name), .int .i64 f.num, .int .i64 f.kind, .int .i64 f.ref, .int .i64 f.lab, .int .i64 f.one, .int .i64 f.key]) := hid (F5.other hne3 _)
      have HD2 : Hid (D2 = case1 t.fs D f) := hid (by
        rw [eD2, eD.out]
        exact case1_is t.fs D f L wv eL.out ew.out)
      have xb := BB1.out.cellF
      have zb := BB1.out.lt
      have xb5 := B5.cellF
      have yb5 := B5.frz
      have zb5 := B5.lt
      clear B4 B5 F5 K5 eD2 hD2 O4 O5 G4 G5 BB1 HO1 BF1 HL1 HK1
      go_upto_region 24 with (first | (at_builtin; refine wpList_append_ran rfl _ _ 25 25 rfl rfl (.slice a3 D1.length c3) (.slice la L.length lc) (.slice a4 (D1.length + L.length) c4) x4 rfl rfl R4.out ?_) | (at_builtin; refine wpList_append_ran rfl _ _ 25 25 rfl rfl (.slice a4 (D1.length + L.length) c4) (.slice (some ⟨x4.heap.size, 0, none⟩) 1 1) (.slice a5 D2.length c5) x5 rfl rfl R5.out ?_))
      clear xb zb xb5 yb5 zb5 R4 R5 HD1 eD
      generalize x5.setCell ⟨q + 1 + 1 + 1, 0, none⟩ (.slice a5 D2.length c5) = A2 at *
      have HND : Hid ((t.fs.take (j + 1)).foldl (decS t.fs) [insV 1 []] = case2 D2 f) := hid (by rw [HTK.out, HD2.out]; rfl)
      have HD2L : Hid (D2.length ≤ 20200) := hid (by
        rw [HD2.out]
        unfold case1 caseL
        simp only [List.length_append, List.length_cons, List.length_nil]
        have := HDL.out
        have := HLL.out
        rw [eL.out]
        omega)
      have xf := BF2.out.cellF
      have zf := BF2.out.lt
      have HNU := hid (fun W => numericR f.kind W)
      have HRV : Hid (rowsV f = (decide (f.lab = 2 ∨ f.lab = 3) && knum f.kind)) := hid rfl
      clear HTK
      have hjt : j + 1 ≤ t.fs.length := by omega
      by_cases l2 : f.lab = 2
      · have q2 : (f.lab == 2) = true := by simp [l2]
        cases hnu : knum f.kind with
        | false =>
          rw [hnu] at HNU
          have HEQ : Hid (case2 D2 f = D2) := hid (by unfold case2; rw [HRV.out, hnu]; simp)
          clear l2 hnu HRV
          go_wp2_with (first | (go_at_call 26; refine (HNU.out _).mono ?_; rintro e u7 ⟨rfl, rfl⟩))
          exact ⟨⟨j + 1, a5, c5, by simp, hjt, by rw [HND.out, HEQ.out]; exact BB2, by rw [HND.out, HEQ.out]; exact HO2, HK2⟩, by simp [numAt]; omega⟩
        | true =>
          rw [hnu] at HNU
          have HEQ : Hid (case2 D2 f = D2 ++ caseL D2.length (tagV f.num 2) (rowL f)) := hid (by unfold case2; rw [HRV.out, hnu]; simp [l2])
          clear l2 hnu HRV
          obtain ⟨v1, v2, v3, v4⟩ := lkV f.num f.ref D2.length HFO.out.num HFO.out.ref HD2L.out
          by_cases k16 : f.kind = 16
          · have q16 : (f.kind == 16) = true := by simp [k16]
            replace k16 := hid k16
            obtain ⟨a6, c6, x6, R6, O6, G6⟩ := appendPQ W.heap.size (.slice a5 D2.length c5) D2 [⟨2, f.num * 8 + 2, (D2.length : Int) + 3, 0, 0⟩, ⟨11, f.num, f.kind, (f.ref + 1), 0⟩, ⟨4, 0, 0, 0, 0⟩] #[.int .i64 2, .int .i64 (f.num * 8 + 2), .int .i64 ((D2.length : Int) + 3), .int .i64 0, .int .i64 0, .int .i64 11, .int .i64 f.num, .int .i64 f.kind, .int .i64 (f.ref + 1), .int .i64 0, .int .i64 4, .int .i64 0, .int .i64 0, .int .i64 0, .int .i64 0] rfl A2 HO2.out HK2.out.size (by have := HD2L.out; simp; omega)
            have B6 := grow_blk G6.out HO2.out BB2.out (by decide)
            have K6 : Keep (fun b => b ≠ q + 1 + 1 + 1 ∧ b < W.heap.size) W x6 := HK2.out.trans (Keep.ofGrow G6.out (fun k hk e => by have := (own_type HO2.out e).1; have := hk.2; omega))
            obtain ⟨D3, eD3⟩ : ∃ D3, D3 = D2 ++ [(⟨2, f.num * 8 + 2, (D2.length : Int) + 3, 0, 0⟩ : IN), ⟨11, f.num, f.kind, (f.ref + 1), 0⟩, ⟨4, 0, 0, 0, 0⟩] := ⟨_, rfl⟩
            have hD3 : D3.length = D2.length + 3 := by rw [eD3, List.length_append]; rfl
            replace R6 : Hid ((Builtin.append_ #[25, 25] 25 #[.slice a5 D2.length c5, .slice (some ⟨A2.heap.size, 0, none⟩) 3 3]).run Tryz.prog (A2.alloc (.cells #[.int .i64 2, .int .i64 (f.num * 8 + 2), .int .i64 ((D2.length : Int) + 3), .int .i64 0, .int .i64 0, .int .i64 11, .int .i64 f.num, .int .i64 f.kind, .int .i64 (f.ref + 1), .int .i64 0, .int .i64 4, .int .i64 0, .int .i64 0, .int .i64 0, .int .i64 0] 59)) = .ok (.slice a6 D3.length c6) x6) := hid (by rw [hD3]; exact R6.out)
            have BB3 : Hid (Blk (x6.setCell ⟨q + 1 + 1 + 1, 0, none⟩ (.slice a6 D3.length c6)) (q + 1 + 1 + 1) 28 #[.slice a6 D3.length c6, .slice none 0 0, .slice none 0 0]) := hid ((B6.set 0 _).is (by simp))
            have HO3 : Hid ((x6.setCell ⟨q + 1 + 1 + 1, 0, none⟩ (.slice a6 D3.length c6)).ownsRow W.heap.size 59 5 (.slice a6 D3.length c6) D3.length (D3.flatMap cIN)) := hid (own_set (by have := O6.out; rw [← eD3] at this; rw [hD3] at this ⊢; exact this) hq3)
            have HK3 : Hid (Keep (fun b => b ≠ q + 1 + 1 + 1 ∧ b < W.heap.size) W (x6.setCell ⟨q + 1 + 1 + 1, 0, none⟩ (.slice a6 D3.length c6))) := hid (K6.trans (Keep.setCell _ _ _ (fun h => h.1 rfl)))
            have HND3 : Hid ((t.fs.take (j + 1)).foldl (decS t.fs) [insV 1 []] = D3) := hid (by rw [HND.out, HEQ.out, eD3]; exact case2_is D2 f _ (by rw [if_pos k16.out]))
            have xb := BB2.out.cellF
            have zb := BB2.out.lt
            have xb6 := B6.cellF
            have yb6 := B6.frz
            have zb6 := B6.lt
            clear B6 K6 eD3 hD3 O6 G6 HEQ HND BB2 HO2 HK2 k16
            go_wp2_with (first | (go_at_call 26; refine (HNU.out _).mono ?_; rintro e u7 ⟨rfl, rfl⟩) | (at_builtin; refine wpList_append_ran rfl _ _ 25 25 rfl rfl (.slice a5 D2.length c5) (.slice (some ⟨A2.heap.size, 0, none⟩) 3 3) (.slice a6 D3.length c6) x6 rfl rfl R6.out ?_))
            exact ⟨⟨j + 1, a6, c6, by simp, hjt, by rw [HND3.out]; exact BB3, by rw [HND3.out]; exact HO3, HK3⟩, by simp [numAt]; omega⟩
          · have q16 : (f.kind == 16) = false := by simpa using k16
            replace k16 := hid k16
            obtain ⟨a6, c6, x6, R6, O6, G6⟩ := appendPQ W.heap.size (.slice a5 D2.length c5) D2 [⟨2, f.num * 8 + 2, (D2.length : Int) + 3, 0, 0⟩, ⟨11, f.num, f.kind, 0, 0⟩, ⟨4, 0, 0, 0, 0⟩] #[.int .i64 2, .int .i64 (f.num * 8 + 2), .int .i64 ((D2.length : Int) + 3), .int .i64 0, .int .i64 0, .int .i64 11, .int .i64 f.num, .int .i64 f.kind, .int .i64 0, .int .i64 0, .int .i64 4, .int .i64 0, .int .i64 0, .int .i64 0, .int .i64 0] rfl A2 HO2.out HK2.out.size (by have := HD2L.out; simp; omega)
            have B6 := grow_blk G6.out HO2.out BB2.out (by decide)
            have K6 : Keep (fun b => b ≠ q + 1 + 1 + 1 ∧ b < W.heap.size) W x6 := HK2.out.trans (Keep.ofGrow G6.out (fun k hk e => by have := (own_type HO2.out e).1; have := hk.2; omega))
            obtain ⟨D3, eD3⟩ : ∃ D3, D3 = D2 ++ [(⟨2, f.num * 8 + 2, (D2.length : Int) + 3, 0, 0⟩ : IN), ⟨11, f.num, f.kind, 0, 0⟩, ⟨4, 0, 0, 0, 0⟩] := ⟨_, rfl⟩
            have hD3 : D3.length = D2.length + 3 := by rw [eD3, List.length_append]; rfl
            replace R6 : Hid ((Builtin.append_ #[25, 25] 25 #[.slice a5 D2.length c5, .slice (some ⟨A2.heap.size, 0, none⟩) 3 3]).run Tryz.prog (A2.alloc (.cells #[.int .i64 2, .int .i64 (f.num * 8 + 2), .int .i64 ((D2.length : Int) + 3), .int .i64 0, .int .i64 0, .int .i64 11, .int .i64 f.num, .int .i64 f.kind, .int .i64 0, .int .i64 0, .int .i64 4, .int .i64 0, .int .i64 0, .int .i64 0, .int .i64 0] 59)) = .ok (.slice a6 D3.length c6) x6) := hid (by rw [hD3]; exact R6.out)
            have BB3 : Hid (Blk (x6.setCell ⟨q + 1 + 1 + 1, 0, none⟩ (.slice a6 D3.length c6)) (q + 1 + 1 + 1) 28 #[.slice a6 D3.length c6, .slice none 0 0, .slice none 0 0]) := hid ((B6.set 0 _).is (by simp))
            have HO3 : Hid ((x6.setCell ⟨q + 1 + 1 + 1, 0, none⟩ (.slice a6 D3.length c6)).ownsRow W.heap.size 59 5 (.slice a6 D3.length c6) D3.length (D3.flatMap cIN)) := hid (own_set (by have := O6.out; rw [← eD3] at this; rw [hD3] at this ⊢; exact this) hq3)
            have HK3 : Hid (Keep (fun b => b ≠ q + 1 + 1 + 1 ∧ b < W.heap.size) W (x6.setCell ⟨q + 1 + 1 + 1, 0, none⟩ (.slice a6 D3.length c6))) := hid (K6.trans (Keep.setCell _ _ _ (fun h => h.1 rfl)))
            have HND3 : Hid ((t.fs.take (j + 1)).foldl (decS t.fs) [insV 1 []] = D3) := hid (by rw [HND.out, HEQ.out, eD3]; exact case2_is D2 f _ (by rw [if_neg k16.out]))
            have xb := BB2.out.cellF
            have zb := BB2.out.lt
            have xb6 := B6.cellF
            have yb6 := B6.frz
            have zb6 := B6.lt
            clear B6 K6 eD3 hD3 O6 G6 HEQ HND BB2 HO2 HK2 k16
            go_wp2_with (first | (go_at_call 26; refine (HNU.out _).mono ?_; rintro e u7 ⟨rfl, rfl⟩) | (at_builtin; refine wpList_append_ran rfl _ _ 25 25 rfl rfl (.slice a5 D2.length c5) (.slice (some ⟨A2.heap.size, 0, none⟩) 3 3) (.slice a6 D3.length c6) x6 rfl rfl R6.out ?_))
            exact ⟨⟨j + 1, a6, c6, by simp, hjt, by rw [HND3.out]; exact BB3, by rw [HND3.out]; exact HO3, HK3⟩, by simp [numAt]; omega⟩
      have q2 : (f.lab == 2) = false := by simpa using l2
      by_cases l3 : f.lab = 3
      · have q3 : (f.lab == 3) = true := by simp [l3]
        cases hnu : knum f.kind with
        | false =>
          rw [hnu] at HNU
          have HEQ : Hid (case2 D2 f = D2) := hid (by unfold case2; rw [HRV.out, hnu]; simp)
          clear l2 l3 hnu HRV
          go_wp2_with (first | (go_at_call 26; refine (HNU.out _).mono ?_; rintro e u7 ⟨rfl, rfl⟩))
          exact ⟨⟨j + 1, a5, c5, by simp, hjt, by rw [HND.out, HEQ.out]; exact BB2, by rw [HND.out, HEQ.out]; exact HO2, HK2⟩, by simp [numAt]; omega⟩
        | true =>
          rw [hnu] at HNU
          have HEQ : Hid (case2 D2 f = D2 ++ caseL D2.length (tagV f.num 2) (rowL f)) := hid (by unfold case2; rw [HRV.out, hnu]; simp [l3])
          clear l2 l3 hnu HRV
          obtain ⟨v1, v2, v3, v4⟩ := lkV f.num f.ref D2.length HFO.out.num HFO.out.ref HD2L.out
          by_cases k16 : f.kind = 16
          · have q16 : (f.kind == 16) = true := by simp [k16]
            replace k16 := hid k16
            obtain ⟨a6, c6, x6, R6, O6, G6⟩ := appendPQ W.heap.size (.slice a5 D2.length c5) D2 [⟨2, f.num * 8 + 2, (D2.length : Int) + 3, 0, 0⟩, ⟨11, f.num, f.kind, (f.ref + 1), 0⟩, ⟨4, 0, 0, 0, 0⟩] #[.int .i64 2, .int .i64 (f.num * 8 + 2), .int .i64 ((D2.length : Int) + 3), .int .i64 0, .int .i64 0, .int .i64 11, .int .i64 f.num, .int .i64 f.kind, .int .i64 (f.ref + 1), .int .i64 0, .int .i64 4, .int .i64 0, .int .i64 0, .int .i64 0, .int .i64 0] rfl A2 HO2.out HK2.out.size (by have := HD2L.out; simp; omega)
            have B6 := grow_blk G6.out HO2.out BB2.out (by decide)
            have K6 : Keep (fun b => b ≠ q + 1 + 1 + 1 ∧ b < W.heap.size) W x6 := HK2.out.trans (Keep.ofGrow G6.out (fun k hk e => by have := (own_type HO2.out e).1; have := hk.2; omega))
            obtain ⟨D3, eD3⟩ : ∃ D3, D3 = D2 ++ [(⟨2, f.num * 8 + 2, (D2.length : Int) + 3, 0, 0⟩ : IN), ⟨11, f.num, f.kind, (f.ref + 1), 0⟩, ⟨4, 0, 0, 0, 0⟩] := ⟨_, rfl⟩
            have hD3 : D3.length = D2.length + 3 := by rw [eD3, List.length_append]; rfl
            replace R6 : Hid ((Builtin.append_ #[25, 25] 25 #[.slice a5 D2.length c5, .slice (some ⟨A2.heap.size, 0, none⟩) 3 3]).run Tryz.prog (A2.alloc (.cells #[.int .i64 2, .int .i64 (f.num * 8 + 2), .int .i64 ((D2.length : Int) + 3), .int .i64 0, .int .i64 0, .int .i64 11, .int .i64 f.num, .int .i64 f.kind, .int .i64 (f.ref + 1), .int .i64 0, .int .i64 4, .int .i64 0, .int .i64 0, .int .i64 0, .int .i64 0] 59)) = .ok (.slice a6 D3.length c6) x6) := hid (by rw [hD3]; exact R6.out)
            have BB3 : Hid (Blk (x6.setCell ⟨q + 1 + 1 + 1, 0, none⟩ (.slice a6 D3.length c6)) (q + 1 + 1 + 1) 28 #[.slice a6 D3.length c6, .slice none 0 0, .slice none 0 0]) := hid ((B6.set 0 _).is (by simp))
            have HO3 : Hid ((x6.setCell ⟨q + 1 + 1 + 1, 0, none⟩ (.slice a6 D3.length c6)).ownsRow W.heap.size 59 5 (.slice a6 D3.length c6) D3.length (D3.flatMap cIN)) := hid (own_set (by have := O6.out; rw [← eD3] at this; rw [hD3] at this ⊢; exact this) hq3)
            have HK3 : Hid (Keep (fun b => b ≠ q + 1 + 1 + 1 ∧ b < W.heap.size) W (x6.setCell ⟨q + 1 + 1 + 1, 0, none⟩ (.slice a6 D3.length c6))) := hid (K6.trans (Keep.setCell _ _ _ (fun h => h.1 rfl)))
            have HND3 : Hid ((t.fs.take (j + 1)).foldl (decS t.fs) [insV 1 []] = D3) := hid (by rw [HND.out, HEQ.out, eD3]; exact case2_is D2 f _ (by rw [if_pos k16.out]))
            have xb := BB2.out.cellF
            have zb := BB2.out.lt
            have xb6 := B6.cellF
            have yb6 := B6.frz
            have zb6 := B6.lt
            clear B6 K6 eD3 hD3 O6 G6 HEQ HND BB2 HO2 HK2 k16
            go_wp2_with (first | (go_at_call 26; refine (HNU.out _).mono ?_; rintro e u7 ⟨rfl, rfl⟩) | (at_builtin; refine wpList_append_ran rfl _ _ 25 25 rfl rfl (.slice a5 D2.length c5) (.slice (some ⟨A2.heap.size, 0, none⟩) 3 3) (.slice a6 D3.length c6) x6 rfl rfl R6.out ?_))
            exact ⟨⟨j + 1, a6, c6, by simp, hjt, by rw [HND3.out]; exact BB3, by rw [HND3.out]; exact HO3, HK3⟩, by simp [numAt]; omega⟩
          · have q16 : (f.kind == 16) = false := by simpa using k16
            replace k16 := hid k16
            obtain ⟨a6, c6, x6, R6, O6, G6⟩ := appendPQ W.heap.size (.slice a5 D2.length c5) D2 [⟨2, f.num * 8 + 2, (D2.length : Int) + 3, 0, 0⟩, ⟨11, f.num, f.kind, 0, 0⟩, ⟨4, 0, 0, 0, 0⟩] #[.int .i64 2, .int .i64 (f.num * 8 + 2), .int .i64 ((D2.length : Int) + 3), .int .i64 0, .int .i64 0, .int .i64 11, .int .i64 f.num, .int .i64 f.kind, .int .i64 0, .int .i64 0, .int .i64 4, .int .i64 0, .int .i64 0, .int .i64 0, .int .i64 0] rfl A2 HO2.out HK2.out.size (by have := HD2L.out; simp; omega)
            have B6 := grow_blk G6.out HO2.out BB2.out (by decide)
            have K6 : Keep (fun b => b ≠ q + 1 + 1 + 1 ∧ b < W.heap.size) W x6 := HK2.out.trans (Keep.ofGrow G6.out (fun k hk e => by have := (own_type HO2.out e).1; have := hk.2; omega))
            obtain ⟨D3, eD3⟩ : ∃ D3, D3 = D2 ++ [(⟨2, f.num * 8 + 2, (D2.length : Int) + 3, 0, 0⟩ : IN), ⟨11, f.num, f.kind, 0, 0⟩, ⟨4, 0, 0, 0, 0⟩] := ⟨_, rfl⟩
            have hD3 : D3.length = D2.length + 3 := by rw [eD3, List.length_append]; rfl
            replace R6 : Hid ((Builtin.append_ #[25, 25] 25 #[.slice a5 D2.length c5, .slice (some ⟨A2.heap.size, 0, none⟩) 3 3]).run Tryz.prog (A2.alloc (.cells #[.int .i64 2, .int .i64 (f.num * 8 + 2), .int .i64 ((D2.length : Int) + 3), .int .i64 0, .int .i64 0, .int .i64 11, .int .i64 f.num, .int .i64 f.kind, .int .i64 0, .int .i64 0, .int .i64 4, .int .i64 0, .int .i64 0, .int .i64 0, .int .i64 0] 59)) = .ok (.slice a6 D3.length c6) x6) := hid (by rw [hD3]; exact R6.out)
            have BB3 : Hid (Blk (x6.setCell ⟨q + 1 + 1 + 1, 0, none⟩ (.slice a6 D3.length c6)) (q + 1 + 1 + 1) 28 #[.slice a6 D3.length c6, .slice none 0 0, .slice none 0 0]) := hid ((B6.set 0 _).is (by simp))
            have HO3 : Hid ((x6.setCell ⟨q + 1 + 1 + 1, 0, none⟩ (.slice a6 D3.length c6)).ownsRow W.heap.size 59 5 (.slice a6 D3.length c6) D3.length (D3.flatMap cIN)) := hid (own_set (by have := O6.out; rw [← eD3] at this; rw [hD3] at this ⊢; exact this) hq3)
            have HK3 : Hid (Keep (fun b => b ≠ q + 1 + 1 + 1 ∧ b < W.heap.size) W (x6.setCell ⟨q + 1 + 1 + 1, 0, none⟩ (.slice a6 D3.length c6))) := hid (K6.trans (Keep.setCell _ _ _ (fun h => h.1 rfl)))
            have HND3 : Hid ((t.fs.take (j + 1)).foldl (decS t.fs) [insV 1 []] = D3) := hid (by rw [HND.out, HEQ.out, eD3]; exact case2_is D2 f _ (by rw [if_neg k16.out]))
            have xb := BB2.out.cellF
            have zb := BB2.out.lt
            have xb6 := B6.cellF
            have yb6 := B6.frz
            have zb6 := B6.lt
            clear B6 K6 eD3 hD3 O6 G6 HEQ HND BB2 HO2 HK2 k16
            go_wp2_with (first | (go_at_call 26; refine (HNU.out _).mono ?_; rintro e u7 ⟨rfl, rfl⟩) | (at_builtin; refine wpList_append_ran rfl _ _ 25 25 rfl rfl (.slice a5 D2.length c5) (.slice (some ⟨A2.heap.size, 0, none⟩) 3 3) (.slice a6 D3.length c6) x6 rfl rfl R6.out ?_))
            exact ⟨⟨j + 1, a6, c6, by simp, hjt, by rw [HND3.out]; exact BB3, by rw [HND3.out]; exact HO3, HK3⟩, by simp [numAt]; omega⟩
      · have q3 : (f.lab == 3) = false := by simpa using l3
        have HEQ : Hid (case2 D2 f = D2) := hid (by unfold case2; rw [HRV.out]; simp [l2, l3])
        clear l2 l3 HRV
        go_wp2
        exact ⟨⟨j + 1, a5, c5, by simp, hjt, by rw [HND.out, HEQ.out]; exact BB2, by rw [HND.out, HEQ.out]; exact HO2, HK2⟩, by simp [numAt]; omega⟩
    · have j1 : ¬ (j : Int) < (t.fs.length : Int) := by omega
      obtain ⟨E, eE⟩ : ∃ E, E = (t.fs.take j).foldl (decS t.fs) [insV 1 []] := ⟨_, rfl⟩
      have HDE : Hid (decL t.fs = E ++ [⟨13, 0, 0, 0, 0⟩, ⟨4, 0, 0, 0, 0⟩]) := hid (by
        rw [eE, List.take_of_length_le (by omega)]
        rfl)
      have HEL : Hid (E.length ≤ 20000) := hid (by
        rw [eE]
        have h1 := decF_len t.fs (t.fs.take j) [insV 1 []]
        have h2 : (t.fs.take j).length * (t.fs.length + 8) ≤ 128 * 136 := Nat.mul_le_mul (by rw [List.length_take]; omega) (by omega)
        simp only [List.length_cons, List.length_nil] at h1
        omega)
      rw [← eE] at BB HO
      clear eE
      have hq3 : q + 1 + 1 + 1 < W.heap.size := by have := HB.out.2; omega
      have hWs : W.heap.size ≤ wr.heap.size := HK.out.size
      obtain ⟨a7, c7, x7, R7, O7, G7⟩ := appendPQ W.heap.size (.slice da E.length dc) E [⟨13, 0, 0, 0, 0⟩, ⟨4, 0, 0, 0, 0⟩] #[.int .i64 13, .int .i64 0, .int .i64 0, .int .i64 0, .int .i64 0, .int .i64 4, .int .i64 0, .int .i64 0, .int .i64 0, .int .i64 0] rfl wr HO.out hWs (by have := HEL.out; simp; omega)
      have B7 := grow_blk G7.out HO.out BB.out (by decide)
      have X7 := grow_blk G7.out HO.out BX1.out (by decide)
      have K7 : Keep (fun b => b ≠ q + 1 + 1 + 1 ∧ b < W.heap.size) W x7 := HK.out.trans (Keep.ofGrow G7.out (fun k hk e => by have := (own_type HO.out e).1; have := hk.2; omega))
      obtain ⟨D, eD⟩ : ∃ D, D = decL t.fs := ⟨_, rfl⟩
      have hD : D.length = E.length + 2 := by rw [eD, HDE.out, List.length_append]; rfl
      replace R7 : Hid ((Builtin.append_ #[25, 25] 25 #[.slice da E.length dc, .slice (some ⟨wr.heap.size, 0, none⟩) 2 2]).run Tryz.prog (wr.alloc (.cells #[.int .i64 13, .int .i64 0, .int .i64 0, .int .i64 0, .int .i64 0, .int .i64 4, .int .i64 0, .int .i64 0, .int .i64 0, .int .i64 0] 59)) = .ok (.slice a7 D.length c7) x7) := hid (by rw [hD]; exact R7.out)
      have BB3 : Hid (Blk (x7.setCell ⟨q + 1 + 1 + 1, 0, none⟩ (.slice a7 D.length c7)) (q + 1 + 1 + 1) 28 #[.slice a7 D.length c7, .slice none 0 0, .slice none 0 0]) := hid ((B7.set 0 _).is (by simp))
      have HO3 : Hid ((x7.setCell ⟨q + 1 + 1 + 1, 0, none⟩ (.slice a7 D.length c7)).ownsRow W.heap.size 59 5 (.slice a7 D.length c7) D.length (D.flatMap cIN)) := hid (own_set (by have := O7.out; rw [← HDE.out, ← eD] at this; rw [hD] at this ⊢; exact this) hq3)
      have HK3 : Hid (Keep (fun b => b ≠ q + 1 + 1 + 1 ∧ b < W.heap.size) W (x7.setCell ⟨q + 1 + 1 + 1, 0, none⟩ (.slice a7 D.length c7))) := hid (K7.trans (Keep.setCell _ _ _ (fun h => h.1 rfl)))
      have BX3 : Hid (Blk (x7.setCell ⟨q + 1 + 1 + 1, 0, none⟩ (.slice a7 D.length c7)) (q + 1 + 1) 50 #[.string (strOfNums t.name), .bool false, .slice fa t.fs.length fc, .slice oa t.os.length oc, .slice sa t.ss.length sc, .slice ra t.rs.length rc]) := hid (X7.other (by show q + 1 + 1 ≠ q + 1 + 1 + 1; omega) _)
      have xb := BB.out.cellF
      have zb := BB.out.lt
      have xb7 := B7.cellF
      have yb7 := B7.frz
      have zb7 := B7.lt
      have eDD := hid eD
      clear B7 K7 X7 hD O7 G7 HDE BB HO HK eD
      go_wp2_with (first | (at_builtin; refine wpList_append_ran rfl _ _ 25 25 rfl rfl (.slice da E.length dc) (.slice (some ⟨wr.heap.size, 0, none⟩) 2 2) (.slice a7 D.length c7) x7 rfl rfl R7.out ?_))
      clear R7 xb zb xb7 yb7 zb7 xx zx BX1 HEL
      have HRM := hid (HR.out.keep HK3.out HSB.out)
      have hWM : W.heap.size ≤ (x7.setCell ⟨q + 1 + 1 + 1, 0, none⟩ (.slice a7 D.length c7)).heap.size := HK3.out.size
      have HSM : Hid (∀ b, b < q → b ≠ q + 1 + 1 + 1 ∧ b < (x7.setCell ⟨q + 1 + 1 + 1, 0, none⟩ (.slice a7 D.length c7)).heap.size) := hid (fun b hb => by have := HSB.out b hb; omega)
      generalize x7.setCell ⟨q + 1 + 1 + 1, 0, none⟩ (.slice a7 D.length c7) = M at *
      clear HR1
      go_loopw [15] (fun r wr => ∃ (j : Nat) (ea : Option Addr) (ec : Nat), r = .int .i64 j ∧ j ≤ t.fs.length ∧ Hid (Blk wr (q + 1 + 1 + 1) 28 #[.slice a7 D.length c7, .slice ea ((t.fs.take j).foldl encS []).length ec, .slice none 0 0]) ∧ Hid (wr.ownsRow M.heap.size 59 5 (.slice ea ((t.fs.take j).foldl encS []).length ec) ((t.fs.take j).foldl encS []).length (((t.fs.take j).foldl encS []).flatMap cIN)) ∧ Hid (Keep (fun b => b ≠ q + 1 + 1 + 1 ∧ b < M.heap.size) M wr)) (fun r wr => t.fs.length - numAt wr r)
      case atStart => exact ⟨0, none, 0, rfl, by omega, BB3, hid (World.ownsRow_nil _ _ _ _), hid (Keep.refl _ _)⟩
      case round =>
        have BBx := BB3
        clear BB3
        obtain ⟨j, ea, ec, rfl, hj, BB, HO, HK⟩ := hrel
        have BX1 := hid (BX3.out.keep HK.out (by omega))
        have HR1 := hid (HRM.out.keep HK.out HSM.out)
        have xx := BX1.out.cellF
        have zx := BX1.out.lt
        by_cases hlt : j < t.fs.length
        · have j1 : (j : Int) < (t.fs.length : Int) := by omega
          obtain ⟨sb, so, esb, hc⟩ := rowAt (g := cFT) (fun _ => rfl) HR1.out (i := j) (x := t.fs[j]) (by simp [hlt])
          subst esb
          have s0 := hc 0 _ rfl
          have s1 := hc 1 _ rfl
          have s2 := hc 2 _ rfl
          have s3 := hc 3 _ rfl
          have s4 := hc 4 _ rfl
          have s5 := hc 5 _ rfl
          have s6 := hc 6 _ rfl
          clear hc
          simp only [Nat.add_zero] at s0
          have hsb : sb < wr.heap.size := World.block_lt_of_cell? _ _ s0
          have HTK : Hid ((t.fs.take (j + 1)).foldl encS [] = encS ((t.fs.take j).foldl encS []) t.fs[j]) := hid (by rw [List.take_succ_eq_append_getElem hlt, List.foldl_append]; rfl)
          have HFO := hid (hF.out _ (List.getElem_mem hlt))
          have HDL : Hid (((t.fs.take j).foldl encS []).length ≤ 20000) := hid (by
            have h1 := encF_len (t.fs.take j) []
            simp only [List.length_nil, List.length_take] at h1
            omega)
          generalize t.fs[j] = f at *
          generalize (t.fs.take j).foldl encS [] = G at *
          go_upto_region 34 with fail
          have BF : Hid (Blk (wr.alloc (.cells #[.string (strOfNums f.name), .int .i64 f.num, .int .i64 f.kind, .int .i64 f.ref, .int .i64 f.lab, .int .i64 f.one, .int .i64 f.key] 52)) wr.heap.size 52 #[.string (strOfNums f.name), .int .i64 f.num, .int .i64 f.kind, .int .i64 f.ref, .int .i64 f.lab, .int .i64 f.one, .int .i64 f.key]) := hid (Blk.new _ _ _)
          have hWs : M.heap.size ≤ wr.heap.size := HK.out.size
          replace BB := hid (BB.out.kept (below_alloc (.cells #[.string (strOfNums f.name), .int .i64 f.num, .int .i64 f.kind, .int .i64 f.ref, .int .i64 f.lab, .int .i64 f.one, .int .i64 f.key] 52)))
          replace HO := hid (own_kept HO.out (below_alloc (.cells #[.string (strOfNums f.name), .int .i64 f.num, .int .i64 f.kind, .int .i64 f.ref, .int .i64 f.lab, .int .i64 f.one, .int .i64 f.key] 52)))
          replace HK : Hid (Keep (fun b => b ≠ q + 1 + 1 + 1 ∧ b < M.heap.size) M (wr.alloc (.cells #[.string (strOfNums f.name), .int .i64 f.num, .int .i64 f.kind, .int .i64 f.ref, .int .i64 f.lab, .int .i64 f.one, .int .i64 f.key] 52))) := hid (HK.out.trans (Keep.ofBelow (below_alloc _)))
          clear s0 s1 s2 s3 s4 s5 s6 xx zx hsb HR1 BX1
          generalize wr.alloc (.cells #[.string (strOfNums f.name), .int .i64 f.num, .int .i64 f.kind, .int .i64 f.ref, .int .i64 f.lab, .int .i64 f.one, .int .i64 f.key] 52) = U at *
          generalize wr.heap.size = p at *
          have HWI : Hid (∀ V, Calls Tryz.prog 25 #[.agg #[.string (strOfNums f.name), .int .i64 f.num, .int .i64 f.kind, .int .i64 f.ref, .int .i64 f.lab, .int .i64 f.one, .int .i64 f.key]] V fun e w' => e = .returned (.int .i64 (wireV f)) ∧ Below V.heap.size V w') := hid fun V => by
            have := wireDR f V
            rw [wireD_eq f HFO.out] at this
            exact this
          have HWL := hid (wireV_le f HFO.out)
          have HWR : Hid (wrtL f = if f.lab = 5 then [⟨22, f.num * 8 + wireV f, f.key, f.kind, f.ref⟩] else if f.lab = 3 then [⟨21, f.num * 8 + 2, f.kind, 0, 0⟩] else if f.lab = 2 then [⟨20, f.num * 8 + wireV f, f.kind, f.ref, 0⟩] else if f.kind = 17 then [⟨17, f.num * 8 + wireV f, 0, 0, 0⟩, ⟨19, f.ref, 0, 0, 0⟩] else [⟨17, f.num * 8 + wireV f, 0, 0, 0⟩, ⟨18, f.kind, 0, 0, 0⟩]) := hid (wrtL_is f)
          generalize wireV f = wv at *
          have xf := BF.out.cellF
          have zf := BF.out.lt
          obtain ⟨w1, w2, w3, w4, w5, w6⟩ := lkE f.num wv G.length HFO.out.num HWL.out HDL.out
          obtain ⟨w7, w8, w9, w0⟩ := lkF G.length HDL.out
          go_region_held3 (fun W => ∀ i, W.cell? ⟨p, i, none⟩ = #[.string (strOfNums f.name), .int .i64 f.num, .int .i64 f.kind, .int .i64 f.ref, .int .i64 f.lab, .int .i64 f.one, .int .i64 f.key][i]?) (first | exact xf | exact (BF.out.kept (below_drew1 _)).cellF) (first | (go_at_call 25; refine (HWI.out _).mono ?_; rintro e Y ⟨rfl, hbx⟩; have HY : Hid (Below U.heap.size U Y) := hid (bl_then (below_drew1 _) hbx); clear xf zf; have xf := (BF.out.kept HY.out).cellF; have zf := (BF.out.kept HY.out).lt; clear hbx))
          replace BB := hid (BB.out.kept HY.out)
          replace HO := hid (own_kept HO.out HY.out)
          replace HK : Hid (Keep (fun b => b ≠ q + 1 + 1 + 1 ∧ b < M.heap.size) M Y) := hid (HK.out.trans (Keep.ofBelow HY.out))
          have HES : Hid ((t.fs.take (j + 1)).foldl encS [] = G ++ insV 16 [f.num, ((G.length + 1 + (wrtL f).length : Nat) : Int), if f.lab = 0 then f.kind else 0] :: wrtL f) := hid HTK.out
          have hjt : j + 1 ≤ t.fs.length := by omega
          have hq3 : q + 1 + 1 + 1 < M.heap.size := by have := HB.out.2; omega
          clear HTK HWI BF HY
          by_cases l5 : f.lab = 5
          · have q5 : (f.lab == 5) = true := by simp [l5]
            have q0 : (f.lab == 0) = false := by simp [l5]
            have eW := hid (show wrtL f = [⟨22, f.num * 8 + wv, f.key, f.kind, f.ref⟩] by rw [HWR.out, if_pos l5])
            have e0 := hid (show ¬ f.lab = 0 by omega)
            clear l5 HWR
            have HEE : Hid ((t.fs.take (j + 1)).foldl encS [] = G ++ ((⟨16, f.num, (G.length : Int) + 2, 0, 0⟩ : IN) :: [⟨22, f.num * 8 + wv, f.key, f.kind, f.ref⟩])) := hid (by rw [HES.out, eW.out, if_neg e0.out]; simp [insV]; omega)
            clear HES eW
            obtain ⟨a8, c8, x8, a9, c9, x9, R8, B8, R9, B9, BBe, HOe, HKe⟩ := encStep Y M (q + 1 + 1 + 1) (.slice a7 D.length c7) ea ec G [⟨22, f.num * 8 + wv, f.key, f.kind, f.ref⟩] #[.int .i64 22, .int .i64 (f.num * 8 + wv), .int .i64 f.key, .int .i64 f.kind, .int .i64 f.ref] rfl ⟨16, f.num, (G.length : Int) + 2, 0, 0⟩ BB.out HO.out HK.out hq3 HDL.out (by simp)
            replace R9 : Hid ((Builtin.append_ #[25, 25] 25 #[.slice a8 (G.length + 1) c8, .slice (some ⟨Y.heap.size, 0, none⟩) 1 1]).run Tryz.prog (x8.setCell ⟨q + 1 + 1 + 1, 1, none⟩ (.slice a8 (G.length + 1) c8)) = .ok (.slice a9 (G ++ ((⟨16, f.num, (G.length : Int) + 2, 0, 0⟩ : IN) :: [⟨22, f.num * 8 + wv, f.key, f.kind, f.ref⟩])).length c9) x9) := hid R9.out
            rw [← HEE.out] at R9 BBe HOe HKe
            dsimp only at R8
            have xb := BB.out.cellF
            have zb := BB.out.lt
            have xb8 := B8.out.cellF
            have yb8 := B8.out.frz
            have zb8 := B8.out.lt
            have xb9 := B9.out.cellF
            have yb9 := B9.out.frz
            have zb9 := B9.out.lt
            clear BB HO HK HEE B8 B9
            generalize eG : (t.fs.take (j + 1)).foldl encS [] = G' at *
            replace eG := hid eG
            go_wp2_with (first | (at_builtin; refine wpList_append_ran rfl _ _ 25 25 rfl rfl (.slice ea G.length ec) (.slice (some ⟨Y.heap.size + 1, 0, none⟩) 1 1) (.slice a8 (G.length + 1) c8) x8 rfl rfl R8.out ?_) | (at_builtin; refine wpList_append_ran rfl _ _ 25 25 rfl rfl (.slice a8 (G.length + 1) c8) (.slice (some ⟨Y.heap.size, 0, none⟩) 1 1) (.slice a9 G'.length c9) x9 rfl rfl R9.out ?_))
            exact ⟨⟨j + 1, a9, c9, by simp, hjt, by rw [eG.out]; exact BBe, by rw [eG.out]; exact HOe, HKe⟩, by simp [numAt]; omega⟩
          have q5 : (f.lab == 5) = false := by simpa using l5
          by_cases l3 : f.lab = 3
          · have q3 : (f.lab == 3) = true := by simp [l3]
            have q0 : (f.lab == 0) = false := by simp [l3]
            have eW := hid (show wrtL f = [⟨21, f.num * 8 + 2, f.kind, 0, 0⟩] by rw [HWR.out, if_neg l5, if_pos l3])
            have e0 := hid (show ¬ f.lab = 0 by omega)
            clear l5 l3 HWR
            have HEE : Hid ((t.fs.take (j + 1)).foldl encS [] = G ++ ((⟨16, f.num, (G.length : Int) + 2, 0, 0⟩ : IN) :: [⟨21, f.num * 8 + 2, f.kind, 0, 0⟩])) := hid (by rw [HES.out, eW.out, if_neg e0.out]; simp [insV]; omega)
            clear HES eW
            obtain ⟨a8, c8, x8, a9, c9, x9, R8, B8, R9, B9, BBe, HOe, HKe⟩ := encStep Y M (q + 1 + 1 + 1) (.slice a7 D.length c7) ea ec G [⟨21, f.num * 8 + 2, f.kind, 0, 0⟩] #[.int .i64 21, .int .i64 (f.num * 8 + 2), .int .i64 f.kind, .int .i64 0, .int .i64 0] rfl ⟨16, f.num, (G.length : Int) + 2, 0, 0⟩ BB.out HO.out HK.out hq3 HDL.out (by simp)
            replace R9 : Hid ((Builtin.append_ #[25, 25] 25 #[.slice a8 (G.length + 1) c8, .slice (some ⟨Y.heap.size, 0, none⟩) 1 1]).run Tryz.prog (x8.setCell ⟨q + 1 + 1 + 1, 1, none⟩ (.slice a8 (G.length + 1) c8)) = .ok (.slice a9 (G ++ ((⟨16, f.num, (G.length : Int) + 2, 0, 0⟩ : IN) :: [⟨21, f.num * 8 + 2, f.kind, 0, 0⟩])).length c9) x9) := hid R9.out
            rw [← HEE.out] at R9 BBe HOe HKe
            dsimp only at R8
            have xb := BB.out.cellF
            have zb := BB.out.lt
            have xb8 := B8.out.cellF
            have yb8 := B8.out.frz
            have zb8 := B8.out.lt
            have xb9 := B9.out.cellF
            have yb9 := B9.out.frz
            have zb9 := B9.out.lt
            clear BB HO HK HEE B8 B9
            generalize eG : (t.fs.take (j + 1)).foldl encS [] = G' at *
            replace eG := hid eG
            go_wp2_with (first | (at_builtin; refine wpList_append_ran rfl _ _ 25 25 rfl rfl (.slice ea G.length ec) (.slice (some ⟨Y.heap.size + 1, 0, none⟩) 1 1) (.slice a8 (G.length + 1) c8) x8 rfl rfl R8.out ?_) | (at_builtin; refine wpList_append_ran rfl _ _ 25 25 rfl rfl (.slice a8 (G.length + 1) c8) (.slice (some ⟨Y.heap.size, 0, none⟩) 1 1) (.slice a9 G'.length c9) x9 rfl rfl R9.out ?_))
            exact ⟨⟨j + 1, a9, c9, by simp, hjt, by rw [eG.out]; exact BBe, by rw [eG.out]; exact HOe, HKe⟩, by simp [numAt]; omega⟩
          have q3 : (f.lab == 3) = false := by simpa using l3
          by_cases l2 : f.lab = 2
          · have q2 : (f.lab == 2) = true := by simp [l2]
            have q0 : (f.lab == 0) = false := by simp [l2]
            have eW := hid (show wrtL f = [⟨20, f.num * 8 + wv, f.kind, f.ref, 0⟩] by rw [HWR.out, if_neg l5, if_neg l3, if_pos l2])
            have e0 := hid (show ¬ f.lab = 0 by omega)
            clear l5 l3 l2 HWR
            have HEE : Hid ((t.fs.take (j + 1)).foldl encS [] = G ++ ((⟨16, f.num, (G.length : Int) + 2, 0, 0⟩ : IN) :: [⟨20, f.num * 8 + wv, f.kind, f.ref, 0⟩])) := hid (by rw [HES.out, eW.out, if_neg e0.out]; simp [insV]; omega)
            clear HES eW
            obtain ⟨a8, c8, x8, a9, c9, x9, R8, B8, R9, B9, BBe, HOe, HKe⟩ := encStep Y M (q + 1 + 1 + 1) (.slice a7 D.length c7) ea ec G [⟨20, f.num * 8 + wv, f.kind, f.ref, 0⟩] #[.int .i64 20, .int .i64 (f.num * 8 + wv), .int .i64 f.kind, .int .i64 f.ref, .int .i64 0] rfl ⟨16, f.num, (G.length : Int) + 2, 0, 0⟩ BB.out HO.out HK.out hq3 HDL.out (by simp)
            replace R9 : Hid ((Builtin.append_ #[25, 25] 25 #[.slice a8 (G.length + 1) c8, .slice (some ⟨Y.heap.size, 0, none⟩) 1 1]).run Tryz.prog (x8.setCell ⟨q + 1 + 1 + 1, 1, none⟩ (.slice a8 (G.length + 1) c8)) = .ok (.slice a9 (G ++ ((⟨16, f.num, (G.length : Int) + 2, 0, 0⟩ : IN) :: [⟨20, f.num * 8 + wv, f.kind, f.ref, 0⟩])).length c9) x9) := hid R9.out
            rw [← HEE.out] at R9 BBe HOe HKe
            dsimp only at R8
            have xb := BB.out.cellF
            have zb := BB.out.lt
            have xb8 := B8.out.cellF
            have yb8 := B8.out.frz
            have zb8 := B8.out.lt
            have xb9 := B9.out.cellF
            have yb9 := B9.out.frz
            have zb9 := B9.out.lt
            clear BB HO HK HEE B8 B9
            generalize eG : (t.fs.take (j + 1)).foldl encS [] = G' at *
            replace eG := hid eG
            go_wp2_with (first | (at_builtin; refine wpList_append_ran rfl _ _ 25 25 rfl rfl (.slice ea G.length ec) (.slice (some ⟨Y.heap.size + 1, 0, none⟩) 1 1) (.slice a8 (G.length + 1) c8) x8 rfl rfl R8.out ?_) | (at_builtin; refine wpList_append_ran rfl _ _ 25 25 rfl rfl (.slice a8 (G.length + 1) c8) (.slice (some ⟨Y.heap.size, 0, none⟩) 1 1) (.slice a9 G'.length c9) x9 rfl rfl R9.out ?_))
            exact ⟨⟨j + 1, a9, c9, by simp, hjt, by rw [eG.out]; exact BBe, by rw [eG.out]; exact HOe, HKe⟩, by simp [numAt]; omega⟩
          have q2 : (f.lab == 2) = false := by simpa using l2
          by_cases k17 : f.kind = 17
          · have q17 : (f.kind == 17) = true := by simpa using k17
            have eW := hid (show wrtL f = [⟨17, f.num * 8 + wv, 0, 0, 0⟩, ⟨19, f.ref, 0, 0, 0⟩] by rw [HWR.out, if_neg l5, if_neg l3, if_neg l2, if_pos k17])
            clear l5 l3 l2 k17 HWR
            by_cases l0 : f.lab = 0
            · have q0 : (f.lab == 0) = true := by simp [l0]
              have e0 := hid l0
              clear l0
              have HEE : Hid ((t.fs.take (j + 1)).foldl encS [] = G ++ ((⟨16, f.num, (G.length : Int) + 3, f.kind, 0⟩ : IN) :: [⟨17, f.num * 8 + wv, 0, 0, 0⟩, ⟨19, f.ref, 0, 0, 0⟩])) := hid (by rw [HES.out, eW.out, if_pos e0.out]; simp [insV]; omega)
              clear HES eW
              obtain ⟨a8, c8, x8, a9, c9, x9, R8, B8, R9, B9, BBe, HOe, HKe⟩ := encStep Y M (q + 1 + 1 + 1) (.slice a7 D.length c7) ea ec G [⟨17, f.num * 8 + wv, 0, 0, 0⟩, ⟨19, f.ref, 0, 0, 0⟩] #[.int .i64 17, .int .i64 (f.num * 8 + wv), .int .i64 0, .int .i64 0, .int .i64 0, .int .i64 19, .int .i64 f.ref, .int .i64 0, .int .i64 0, .int .i64 0] rfl ⟨16, f.num, (G.length : Int) + 3, f.kind, 0⟩ BB.out HO.out HK.out hq3 HDL.out (by simp)
              replace R9 : Hid ((Builtin.append_ #[25, 25] 25 #[.slice a8 (G.length + 1) c8, .slice (some ⟨Y.heap.size, 0, none⟩) 2 2]).run Tryz.prog (x8.setCell ⟨q + 1 + 1 + 1, 1, none⟩ (.slice a8 (G.length + 1) c8)) = .ok (.slice a9 (G ++ ((⟨16, f.num, (G.length : Int) + 3, f.kind, 0⟩ : IN) :: [⟨17, f.num * 8 + wv, 0, 0, 0⟩, ⟨19, f.ref, 0, 0, 0⟩])).length c9) x9) := hid R9.out
              rw [← HEE.out] at R9 BBe HOe HKe
              dsimp only at R8
              have xb := BB.out.cellF
              have zb := BB.out.lt
              have xb8 := B8.out.cellF
              have yb8 := B8.out.frz
              have zb8 := B8.out.lt
              have xb9 := B9.out.cellF
              have yb9 := B9.out.frz
              have zb9 := B9.out.lt
              clear BB HO HK HEE B8 B9
              generalize eG : (t.fs.take (j + 1)).foldl encS [] = G' at *
              replace eG := hid eG
              go_wp2_with (first | (at_builtin; refine wpList_append_ran rfl _ _ 25 25 rfl rfl (.slice ea G.length ec) (.slice (some ⟨Y.heap.size + 1, 0, none⟩) 1 1) (.slice a8 (G.length + 1) c8) x8 rfl rfl R8.out ?_) | (at_builtin; refine wpList_append_ran rfl _ _ 25 25 rfl rfl (.slice a8 (G.length + 1) c8) (.slice (some ⟨Y.heap.size, 0, none⟩) 2 2) (.slice a9 G'.length c9) x9 rfl rfl R9.out ?_))
              exact ⟨⟨j + 1, a9, c9, by simp, hjt, by rw [eG.out]; exact BBe, by rw [eG.out]; exact HOe, HKe⟩, by simp [numAt]; omega⟩
            · have q0 : (f.lab == 0) = false := by simpa using l0
              have e0 := hid l0
              clear l0
              have HEE : Hid ((t.fs.take (j + 1)).foldl encS [] = G ++ ((⟨16, f.num, (G.length : Int) + 3, 0, 0⟩ : IN) :: [⟨17, f.num * 8 + wv, 0, 0, 0⟩, ⟨19, f.ref, 0, 0, 0⟩])) := hid (by rw [HES.out, eW.out, if_neg e0.out]; simp [insV]; omega)
              clear HES eW
              obtain ⟨a8, c8, x8, a9, c9, x9, R8, B8, R9, B9, BBe, HOe, HKe⟩ := encStep Y M (q + 1 + 1 + 1) (.slice a7 D.length c7) ea ec G [⟨17, f.num * 8 + wv, 0, 0, 0⟩, ⟨19, f.ref, 0, 0, 0⟩] #[.int .i64 17, .int .i64 (f.num * 8 + wv), .int .i64 0, .int .i64 0, .int .i64 0, .int .i64 19, .int .i64 f.ref, .int .i64 0, .int .i64 0, .int .i64 0] rfl ⟨16, f.num, (G.length : Int) + 3, 0, 0⟩ BB.out HO.out HK.out hq3 HDL.out (by simp)
              replace R9 : Hid ((Builtin.append_ #[25, 25] 25 #[.slice a8 (G.length + 1) c8, .slice (some ⟨Y.heap.size, 0, none⟩) 2 2]).run Tryz.prog (x8.setCell ⟨q + 1 + 1 + 1, 1, none⟩ (.slice a8 (G.length + 1) c8)) = .ok (.slice a9 (G ++ ((⟨16, f.num, (G.length : Int) + 3, 0, 0⟩ : IN) :: [⟨17, f.num * 8 + wv, 0, 0, 0⟩, ⟨19, f.ref, 0, 0, 0⟩])).length c9) x9) := hid R9.out
              rw [← HEE.out] at R9 BBe HOe HKe
              dsimp only at R8
              have xb := BB.out.cellF
              have zb := BB.out.lt
              have xb8 := B8.out.cellF
              have yb8 := B8.out.frz
              have zb8 := B8.out.lt
              have xb9 := B9.out.cellF
              have yb9 := B9.out.frz
              have zb9 := B9.out.lt
              clear BB HO HK HEE B8 B9
              generalize eG : (t.fs.take (j + 1)).foldl encS [] = G' at *
              replace eG := hid eG
              go_wp2_with (first | (at_builtin; refine wpList_append_ran rfl _ _ 25 25 rfl rfl (.slice ea G.length ec) (.slice (some ⟨Y.heap.size + 1, 0, none⟩) 1 1) (.slice a8 (G.length + 1) c8) x8 rfl rfl R8.out ?_) | (at_builtin; refine wpList_append_ran rfl _ _ 25 25 rfl rfl (.slice a8 (G.length + 1) c8) (.slice (some ⟨Y.heap.size, 0, none⟩) 2 2) (.slice a9 G'.length c9) x9 rfl rfl R9.out ?_))
              exact ⟨⟨j + 1, a9, c9, by simp, hjt, by rw [eG.out]; exact BBe, by rw [eG.out]; exact HOe, HKe⟩, by simp [numAt]; omega⟩
          · have q17 : (f.kind == 17) = false := by simpa using k17
            have eW := hid (show wrtL f = [⟨17, f.num * 8 + wv, 0, 0, 0⟩, ⟨18, f.kind, 0, 0, 0⟩] by rw [HWR.out, if_neg l5, if_neg l3, if_neg l2, if_neg k17])
            clear l5 l3 l2 k17 HWR
            by_cases l0 : f.lab = 0
            · have q0 : (f.lab == 0) = true := by simp [l0]
              have e0 := hid l0
              clear l0
              have HEE : Hid ((t.fs.take (j + 1)).foldl encS [] = G ++ ((⟨16, f.num, (G.length : Int) + 3, f.kind, 0⟩ : IN) :: [⟨17, f.num * 8 + wv, 0, 0, 0⟩, ⟨18, f.kind, 0, 0, 0⟩])) := hid (by rw [HES.out, eW.out, if_pos e0.out]; simp [insV]; omega)
              clear HES eW
              obtain ⟨a8, c8, x8, a9, c9, x9, R8, B8, R9, B9, BBe, HOe, HKe⟩ := encStep Y M (q + 1 + 1 + 1) (.slice a7 D.length c7) ea ec G [⟨17, f.num * 8 + wv, 0, 0, 0⟩, ⟨18, f.kind, 0, 0, 0⟩] #[.int .i64 17, .int .i64 (f.num * 8 + wv), .int .i64 0, .int .i64 0, .int .i64 0, .int .i64 18, .int .i64 f.kind, .int .i64 0, .int .i64 0, .int .i64 0] rfl ⟨16, f.num, (G.length : Int) + 3, f.kind, 0⟩ BB.out HO.out HK.out hq3 HDL.out (by simp)
              replace R9 : Hid ((Builtin.append_ #[25, 25] 25 #[.slice a8 (G.length + 1) c8, .slice (some ⟨Y.heap.size, 0, none⟩) 2 2]).run Tryz.prog (x8.setCell ⟨q + 1 + 1 + 1, 1, none⟩ (.slice a8 (G.length + 1) c8)) = .ok (.slice a9 (G ++ ((⟨16, f.num, (G.length : Int) + 3, f.kind, 0⟩ : IN) :: [⟨17, f.num * 8 + wv, 0, 0, 0⟩, ⟨18, f.kind, 0, 0, 0⟩])).length c9) x9) := hid R9.out
              rw [← HEE.out] at R9 BBe HOe HKe
              dsimp only at R8
              have xb := BB.out.cellF
              have zb := BB.out.lt
              have xb8 := B8.out.cellF
              have yb8 := B8.out.frz
              have zb8 := B8.out.lt
              have xb9 := B9.out.cellF
              have yb9 := B9.out.frz
              have zb9 := B9.out.lt
              clear BB HO HK HEE B8 B9
              generalize eG : (t.fs.take (j + 1)).foldl encS [] = G' at *
              replace eG := hid eG
              go_wp2_with (first | (at_builtin; refine wpList_append_ran rfl _ _ 25 25 rfl rfl (.slice ea G.length ec) (.slice (some ⟨Y.heap.size + 1, 0, none⟩) 1 1) (.slice a8 (G.length + 1) c8) x8 rfl rfl R8.out ?_) | (at_builtin; refine wpList_append_ran rfl _ _ 25 25 rfl rfl (.slice a8 (G.length + 1) c8) (.slice (some ⟨Y.heap.size, 0, none⟩) 2 2) (.slice a9 G'.length c9) x9 rfl rfl R9.out ?_))
              exact ⟨⟨j + 1, a9, c9, by simp, hjt, by rw [eG.out]; exact BBe, by rw [eG.out]; exact HOe, HKe⟩, by simp [numAt]; omega⟩
            · have q0 : (f.lab == 0) = false := by simpa using l0
              have e0 := hid l0
              clear l0
              have HEE : Hid ((t.fs.take (j + 1)).foldl encS [] = G ++ ((⟨16, f.num, (G.length : Int) + 3, 0, 0⟩ : IN) :: [⟨17, f.num * 8 + wv, 0, 0, 0⟩, ⟨18, f.kind, 0, 0, 0⟩])) := hid (by rw [HES.out, eW.out, if_neg e0.out]; simp [insV]; omega)
              clear HES eW
              obtain ⟨a8, c8, x8, a9, c9, x9, R8, B8, R9, B9, BBe, HOe, HKe⟩ := encStep Y M (q + 1 + 1 + 1) (.slice a7 D.length c7) ea ec G [⟨17, f.num * 8 + wv, 0, 0, 0⟩, ⟨18, f.kind, 0, 0, 0⟩] #[.int .i64 17, .int .i64 (f.num * 8 + wv), .int .i64 0, .int .i64 0, .int .i64 0, .int .i64 18, .int .i64 f.kind, .int .i64 0, .int .i64 0, .int .i64 0] rfl ⟨16, f.num, (G.length : Int) + 3, 0, 0⟩ BB.out HO.out HK.out hq3 HDL.out (by simp)
              replace R9 : Hid ((Builtin.append_ #[25, 25] 25 #[.slice a8 (G.length + 1) c8, .slice (some ⟨Y.heap.size, 0, none⟩) 2 2]).run Tryz.prog (x8.setCell ⟨q + 1 + 1 + 1, 1, none⟩ (.slice a8 (G.length + 1) c8)) = .ok (.slice a9 (G ++ ((⟨16, f.num, (G.length : Int) + 3, 0, 0⟩ : IN) :: [⟨17, f.num * 8 + wv, 0, 0, 0⟩, ⟨18, f.kind, 0, 0, 0⟩])).length c9) x9) := hid R9.out
              rw [← HEE.out] at R9 BBe HOe HKe
              dsimp only at R8
              have xb := BB.out.cellF
              have zb := BB.out.lt
              have xb8 := B8.out.cellF
              have yb8 := B8.out.frz
              have zb8 := B8.out.lt
              have xb9 := B9.out.cellF
              have yb9 := B9.out.frz
              have zb9 := B9.out.lt
              clear BB HO HK HEE B8 B9
              generalize eG : (t.fs.take (j + 1)).foldl encS [] = G' at *
              replace eG := hid eG
              go_wp2_with (first | (at_builtin; refine wpList_append_ran rfl _ _ 25 25 rfl rfl (.slice ea G.length ec) (.slice (some ⟨Y.heap.size + 1, 0, none⟩) 1 1) (.slice a8 (G.length + 1) c8) x8 rfl rfl R8.out ?_) | (at_builtin; refine wpList_append_ran rfl _ _ 25 25 rfl rfl (.slice a8 (G.length + 1) c8) (.slice (some ⟨Y.heap.size, 0, none⟩) 2 2) (.slice a9 G'.length c9) x9 rfl rfl R9.out ?_))
              exact ⟨⟨j + 1, a9, c9, by simp, hjt, by rw [eG.out]; exact BBe, by rw [eG.out]; exact HOe, HKe⟩, by simp [numAt]; omega⟩
        · have j1 : ¬ (j : Int) < (t.fs.length : Int) := by omega
          obtain ⟨E, eE⟩ : ∃ E, E = (t.fs.take j).foldl encS [] := ⟨_, rfl⟩
          have HDE : Hid (encL t.fs = E ++ [⟨23, 0, 0, 0, 0⟩, ⟨24, 0, 0, 0, 0⟩]) := hid (by
            rw [eE, List.take_of_length_le (by omega)]
            rfl)
          have HEL : Hid (E.length ≤ 20000) := hid (by
            rw [eE]
            have h1 := encF_len (t.fs.take j) []
            simp only [List.length_nil, List.length_take] at h1
            omega)
          rw [← eE] at BB HO
          clear eE
          have hq3 : q + 1 + 1 + 1 < M.heap.size := by have := HB.out.2; omega
          have hWs : M.heap.size ≤ wr.heap.size := HK.out.size
          obtain ⟨a7', c7', x7', R7, O7, G7⟩ := appendPQ M.heap.size (.slice ea E.length ec) E [⟨23, 0, 0, 0, 0⟩, ⟨24, 0, 0, 0, 0⟩] #[.int .i64 23, .int .i64 0, .int .i64 0, .int .i64 0, .int .i64 0, .int .i64 24, .int .i64 0, .int .i64 0, .int .i64 0, .int .i64 0] rfl wr HO.out hWs (by have := HEL.out; simp; omega)
          have B7 := grow_blk G7.out HO.out BB.out (by decide)
          have K7 : Keep (fun b => b ≠ q + 1 + 1 + 1 ∧ b < M.heap.size) M x7' := HK.out.trans (Keep.ofGrow G7.out (fun k hk e => by have := (own_type HO.out e).1; have := hk.2; omega))
          obtain ⟨C, eC⟩ : ∃ C, C = encL t.fs := ⟨_, rfl⟩
          have hC : C.length = E.length + 2 := by rw [eC, HDE.out, List.length_append]; rfl
          replace R7 : Hid ((Builtin.append_ #[25, 25] 25 #[.slice ea E.length ec, .slice (some ⟨wr.heap.size, 0, none⟩) 2 2]).run Tryz.prog (wr.alloc (.cells #[.int .i64 23, .int .i64 0, .int .i64 0, .int .i64 0, .int .i64 0, .int .i64 24, .int .i64 0, .int .i64 0, .int .i64 0, .int .i64 0] 59)) = .ok (.slice a7' C.length c7') x7') := hid (by rw [hC]; exact R7.out)
          have BBf : Hid (Blk (x7'.setCell ⟨q + 1 + 1 + 1, 1, none⟩ (.slice a7' C.length c7')) (q + 1 + 1 + 1) 28 #[.slice a7 D.length c7, .slice a7' C.length c7', .slice none 0 0]) := hid ((B7.set 1 _).is (by simp))
          have HOf : Hid ((x7'.setCell ⟨q + 1 + 1 + 1, 1, none⟩ (.slice a7' C.length c7')).ownsRow M.heap.size 59 5 (.slice a7' C.length c7') C.length (C.flatMap cIN)) := hid (own_set (by have := O7.out; rw [← HDE.out, ← eC] at this; rw [hC] at this ⊢; exact this) hq3)
          have HKf : Hid (Keep (fun b => b ≠ q + 1 + 1 + 1 ∧ b < M.heap.size) M (x7'.setCell ⟨q + 1 + 1 + 1, 1, none⟩ (.slice a7' C.length c7'))) := hid (K7.trans (Keep.setCell _ _ _ (fun h => h.1 rfl)))
          have xb := BB.out.cellF
          have zb := BB.out.lt
          have xb7 := B7.cellF
          have yb7 := B7.frz
          have zb7 := B7.lt
          have eCC := hid eC
          clear B7 K7 hC O7 G7 HDE BB HO HK eC
          go_upto_region 51 with (first | (at_builtin; refine wpList_append_ran rfl _ _ 25 25 rfl rfl (.slice ea E.length ec) (.slice (some ⟨wr.heap.size, 0, none⟩) 2 2) (.slice a7' C.length c7') x7' rfl rfl R7.out ?_))
          clear R7 xb zb xb7 yb7 zb7 xx zx BX1 HEL HR1
          have BR1 := hid ((BR.out.keep HK3.out ⟨by omega, by have := HB.out.2; omega⟩).keep HKf.out ⟨by omega, by have := HB.out.2; omega⟩)
          have HOD := hid (own_keep HO3.out (f := fun b => b ≠ q + 1 + 1 + 1 ∧ b < M.heap.size) (fun k hk => ⟨fun e => by subst e; exact own_ne HO3.out BBx.out (by decide) hk, (own_type HO3.out hk).2.1⟩) HKf.out)
          generalize x7'.setCell ⟨q + 1 + 1 + 1, 1, none⟩ (.slice a7' C.length c7') = Fw at *
          have xr := BR1.out.cellF
          have yr := BR1.out.frz
          have zr := BR1.out.lt
          have xb := BBf.out.cellF
          have zb := BBf.out.lt
          go_wp2
          refine bodyPost_ret (v := .agg #[.slice a7 D.length c7, .slice a7' C.length c7', .slice none 0 0]) (by simp [results, Tryz.results11, go_sem, xr, zr, yr]) rfl ?_
          have hqW : q + 1 + 1 + 1 + 1 = W.heap.size := by have := HB.out.2; omega
          have hq1 : q + 1 < W.heap.size := by omega
          have hqM : q + 1 < M.heap.size := by omega
          have HAP : ∀ b, (Value.slice a7 D.length c7).ownBlock = some b → (Value.slice a7' C.length c7').ownBlock ≠ some b := fun b h1 h2 => by
            have := (own_type HO3.out h1).2.1
            have := (own_type HOf.out h2).1
            omega
          refine ⟨a7, c7, a7', c7', none, 0, by show _ = Ending.returned (.agg #[.slice a7 (decL t.fs).length c7, .slice a7' (encL t.fs).length c7', .slice none 0 0]); rw [← eDD.out, ← eCC.out], ⟨?_, ?_, World.ownsRow_nil _ _ _ _, ?_⟩, ?_⟩
          · show World.ownsRow _ _ _ _ (.slice a7 (decL t.fs).length c7) (decL t.fs).length ((decL t.fs).flatMap cIN)
            rw [← eDD.out, eq]
            exact own_mono (own_set (own_set (own_set HOD.out hq1) hq1) hq1) (by omega)
          · show World.ownsRow _ _ _ _ (.slice a7' (encL t.fs).length c7') (encL t.fs).length ((encL t.fs).flatMap cIN)
            rw [← eCC.out, eq]
            exact own_mono (own_set (own_set (own_set HOf.out hqM) hqM) hqM) (by omega)
          · show ∀ b, (Value.slice a7 (decL t.fs).length c7).ownBlock = some b → (Value.slice a7' (encL t.fs).length c7').ownBlock ≠ some b
            rw [← eDD.out, ← eCC.out]
            exact HAP
          · rw [eq]
            have h1 := HB.out.1
            have h2 : Below q w Fw := (h1.trans (HK3.out.below (B := q) (by omega) (fun k hk => ⟨by omega, by omega⟩))).trans (HKf.out.below (B := q) (by omega) (fun k hk => ⟨by omega, by omega⟩))
            have h3 : q ≤ Fw.heap.size := by have := HKf.out.size; omega
            have hs : ∀ (V : World) (j : Nat) (v : Value), Keep (fun b => b < q) V (V.setCell ⟨q + 1, j, none⟩ v) := fun V j v => Keep.setCell _ _ _ (by show ¬ q + 1 < q; omega)
            exact h2.trans (Keep.below (((hs _ _ _).trans (hs _ _ _)).trans (hs _ _ _)) h3 (fun k hk => hk))
end Go.Proofs.YtbopddnekoocoaaGreatDoor
