/-
  The layer is awake.
  A message's new numbers.
  EvolveKnown: chapter 18's examples.
  EvolveKnown, the walk.
  What comes in, opened: strings; and what the bound on it says.
  A table that comes in, opened.
  A table that comes in, opened: fields, symbols, ranges, types.
  The variables of Go's library that the rows list: a world that lays them; the one that is named alone.
-/
import Derived.Test.YtmfaakimhgkedaaDoorCEV11
import Derived.Test.YtmfaakimhgkedaaDoorCTY
import Derived.Test.YtmfaakimhgkedaaDoorRows
import Derived.Stop.LaidErr
import Derived.Deep.DeepHandedRow
import Derived.Deep.DeepWitnessRowRef
import Derived.LaidLaws
namespace Go.Proofs.YtmfaakimhgkedaaDoor
open Go.RowKit
set_option maxRecDepth 1000000
set_option linter.unusedVariables false
set_option linter.unusedSimpArgs false
set_option maxHeartbeats 1000000
def mor1 : List CH := [⟨2, 6, [77], 4⟩]
theorem awake18 (w : World) (m : Int) (hm : w.cell? ⟨0, 0, none⟩ = some (.int .i64 m)) : Calls Tryd.prog 6 #[] w fun e w' => e = .returned (.bool true) ∧ Below w.heap.size w w' := by
  have HM := hid hm
  clear hm
  have HD : Hid (∀ (W : World) (h g : Nat) (fa ta tb : Option Addr) (fc : Nat), Below w.heap.size w W → TbR W (.slice ta 2 2) (simL h) → TbR W (.slice tb 2 2) (morL g fa fc) → Calls Tryd.prog 10 #[.agg #[.slice ta 2 2], .agg #[.slice tb 2 2]] W fun e w' => ∃ va vc, e = .returned (.tuple #[.slice va 1 vc, .int .i64 2, .int .i64 0]) ∧ RowS w' AnyZ 4 (.slice va mor1.length vc) mor1.length (mor1.flatMap cCH) ∧ Below W.heap.size W w') := hid fun W h g fa ta tb fc hW hA hB => by
    refine (diffT W (simL h) (morL g fa fc) ta tb 2 2 hA hB (simOk h) (morOk g fa fc) (fun x hx => by simp [simL] at hx; rcases hx with rfl | rfl <;> simp [simE, simM]) (fun x hx => by simp [morL] at hx; rcases hx with rfl | rfl <;> simp [simE]) m (cell_below HM.out hW)).mono ?_
    rintro e w' ⟨h1, h2, -⟩
    obtain ⟨va, vc, rfl, h3⟩ := h2 ⟨simGood h, morGood g fa fc⟩
    rw [simMore] at h3 ⊢
    exact ⟨va, vc, rfl, own_row h3 (fun _ _ => trivial), h1⟩
  have HS := hid (fun (W : World) (aa ba : Option Addr) (ac bc : Nat) (hA : RowS W AnyZ 4 (.slice aa mor1.length ac) mor1.length (mor1.flatMap cCH)) (hB : RowS W AnyZ 4 (.slice ba mor1.length bc) mor1.length (mor1.flatMap cCH)) => sameCT W mor1 mor1 aa ba ac bc hA hB (fun x hx => by simp [mor1] at hx; subst hx; exact ⟨by decide, by decide⟩) (fun x hx => by simp [mor1] at hx; subst hx; exact ⟨by decide, by decide⟩))
  go_enter Tryd.func6, Tryd.ntmps6
  go_wp2_with fail
  refine (simpleW _).mono ?_
  rintro e w1 ⟨rfl, ht1, hb1⟩
  have HT1 : Hid (TbR w1 (.slice (some ⟨w.heap.size + 1 + 1 + 1, 0, none⟩) 2 2) (simL w.heap.size)) := hid ht1
  have HB1 : Hid (Below w.heap.size w w1) := hid (bl_then (by exact blBy) hb1)
  clear ht1 hb1
  go_wp2_with fail
  refine (moreW _).mono ?_
  rintro e w2 ⟨h, fa, fc, ta, rfl, ht2, hb2⟩
  replace HT1 := hid (HT1.out.kept hb2)
  have HT2 := hid ht2
  replace HB1 := hid (below_trans HB1.out hb2)
  clear ht2 hb2
  go_wp2_with fail
  refine (HD.out _ _ _ _ _ _ _ HB1.out HT1.out HT2.out).mono ?_
  rintro e w3 ⟨va, vc, rfl, hr, hb3⟩
  have HR := hid hr
  have HB3 := hid (below_trans HB1.out hb3)
  clear hr hb3 HT1 HT2 HB1 HD
  go_wp2_with fail
  refine (HS.out _ _ _ _ _ (HR.out.kept (below_alloc _)) (rowOf (Blk.new _ _ _) 4 1 _ rfl rfl (by decide))).mono ?_
  rintro e w4 ⟨r, rfl, hr, hb4⟩
  have er : r = true := by simpa using hr
  subst er
  have HB4 : Hid (Below w.heap.size w w4) := hid (bl_then (by have := HB3.out; exact blBy) hb4)
  clear hb4
  go_wp2
  go_ret
  exact ⟨rfl, HB4.out⟩
end Go.Proofs.YtmfaakimhgkedaaDoor
namespace Go.Proofs.YtmfaakimhgkedaaDoor
open Go.RowKit
set_option maxRecDepth 1000000
set_option linter.unusedVariables false
set_option linter.unusedSimpArgs false
set_option maxHeartbeats 1000000
/-- The message of that name. -/
def msgO (l : List TV) (nm : List Int) : Option TV := match l.findIdx? (nameP nm) with
  | none => none
  | some k => match l[k]? with
    | some x => if x.t.enum = true then none else some x
    | none => none
def tMI : Option TV → Value
  | some x => .tuple #[.agg #[.string (strOfNums x.t.name), .bool false, x.f, x.o, x.s, x.r], .bool true]
  | none => .tuple #[.agg #[.string ⟨#[]⟩, .bool false, .slice none 0 0, .slice none 0 0, .slice none 0 0, .slice none 0 0], .bool false]
theorem messageInT (w : World) (l : List TV) (ta : Option Addr) (tc : Nat) (h : TbR w (.slice ta l.length tc) l) (hk : ∀ x ∈ l, OkV x) (hg : goodB l = true) (nm : List Int) (hn : TxA nm) : Calls Tryd.prog 13 #[.agg #[.slice ta l.length tc], .string (strOfNums nm)] w fun e w' => e = .returned (tMI (msgO l nm)) ∧ Below w.heap.size w w' := by
  have HT := hid h
  have HP : Hid (∀ W, Below w.heap.size w W → Calls Tryd.prog 18 #[.agg #[.slice ta l.length tc]] W fun e w' => ∃ k, e = .returned (.map (some k)) ∧ Kn w' k l l.length ∧ Below W.heap.size W w') := hid fun W hW => (placesT W l ta tc (h.kept hW) hk hg).mono fun e w' h => ⟨_, h.1, h.2.1, h.2.2⟩
  have HN := hid hn
  have HO : Hid (msgO l nm = match l.findIdx? (nameP nm) with
    | none => none
    | some k => match l[k]? with
      | some x => if x.t.enum = true then none else some x
      | none => none) := hid rfl
  have hl := good_len hg
  clear h hk hg hn
  generalize msgO l nm = O at *
  go_enter Tryd.func13, Tryd.ntmps13
  go_wp2_with fail
  refine (HP.out _ (by exact blBy)).mono ?_
  rintro e w1 ⟨k, rfl, hk1, hb1⟩
  have BA : Blk w1 w.heap.size 24 #[.slice ta l.length tc] := ((Blk.new _ _ _).kept (below_alloc _)).kept hb1
  have BR : Blk w1 (w.heap.size + 1) 35 #[.string ⟨#[]⟩, .bool false, .slice none 0 0, .slice none 0 0, .slice none 0 0, .slice none 0 0] := (Blk.newAt (by simp)).kept hb1
  have HL : Hid (Below w.heap.size w w1) := hid (bl_then (by exact blBy) hb1)
  clear hb1
  have x1 := BA.cellF
  have z1 := BA.lt
  have x2 := BR.cellF
  have y2 := BR.frz
  have z2 := BR.lt
  rcases hk1.at HN.out with ⟨h1, -, c, hr⟩ | ⟨j, hj, h1, h3, -, hr⟩
  · have eO : O = none := by rw [HO.out, h1]
    subst eO
    clear HO h1 hk1
    go_wp2
    exact bodyPost_ret (v := tMI none) (by simp [results, Tryd.results13, go_sem, x2, y2, z2, tMI]) rfl ⟨rfl, by have := HL.out; exact blBy⟩
  · have HTY := hid (HT.out.ty _ (List.getElem_mem hj))
    obtain ⟨tb, tof, rfl, hbl, c0, c1, c2, c3, c4, c5⟩ := row6 (HT.out.row.kept HL.out) hj
    have eO : O = if l[j].t.enum = true then none else some l[j] := by rw [HO.out, h1]; simp [hj]
    have k1 : (j : Int) < (l.length : Int) := by omega
    have n1 : tb < w.heap.size := by
      obtain ⟨tb', tof', e, hbl', -⟩ := row6 HT.out.row hj
      cases e
      exact hbl'
    have n2 : tb ≠ w.heap.size + 1 := by omega
    have n3 : tb ≠ w.heap.size := by omega
    clear HO h1 hk1 h3
    generalize l[j] = x at *
    obtain ⟨t, f, o, s, r⟩ := x
    obtain ⟨fa, fc, ef, -⟩ := rowS_sl HTY.out.f
    obtain ⟨oa, oc, eo, -⟩ := rowS_sl HTY.out.o
    obtain ⟨sa, sc, es, -⟩ := rowS_sl HTY.out.s
    obtain ⟨ra, rc, er, -⟩ := rowS_sl HTY.out.r
    dsimp only at ef eo es er
    subst ef eo es er
    dsimp only at c0 c1 c2 c3 c4 c5 eO
    cases he : t.enum with
    | true =>
      rw [he] at c1
      have eO' : O = none := by rw [eO, he]; rfl
      subst eO'
      clear eO he
      go_wp2
      exact bodyPost_ret (v := tMI none) (by simp [results, Tryd.results13, go_sem, x2, y2, z2, tMI]) rfl ⟨rfl, by have := HL.out; first | exact blBy | exact bl_drewN this _⟩
    | false =>
      rw [he] at c1
      have eO' : O = some ⟨t, .slice fa t.fs.length fc, .slice oa t.os.length oc, .slice sa t.ss.length sc, .slice ra t.rs.length rc⟩ := by rw [eO, he]; rfl
      subst eO'
      clear eO he
      go_wp2
      exact bodyPost_ret (v := .tuple #[.agg #[.string (strOfNums t.name), .bool false, .slice fa t.fs.length fc, .slice oa t.os.length oc, .slice sa t.ss.length sc, .slice ra t.rs.length rc], .bool true]) (by simp [results, Tryd.results13, go_sem, x2, y2, z2]) rfl ⟨rfl, by have := HL.out; first | exact blBy | exact bl_drewN this _⟩
theorem msgO_some {l : List TV} {nm : List Int} {x : TV} (h : msgO l nm = some x) : x.t.enum = false ∧ ∃ (k : Nat) (hk : k < l.length), l[k] = x := by
  unfold msgO at h
  split at h
  · cases h
  · rename_i k hk
    split at h
    · rename_i y hy
      split at h
      · cases h
      · rename_i he
        cases h
        obtain ⟨h1, h2⟩ := List.getElem?_eq_some_iff.1 hy
        exact ⟨by simpa using he, k, h1, h2⟩
    · cases h
/-- What Fresh answers. -/
def FrX (w : World) (ga gb : Bool) (oa ob : Option TV) (e : Ending) (w' : World) : Prop := Below w.heap.size w w' ∧ (¬ (ga = true ∧ gb = true) → e = .returned (.tuple #[.slice none 0 0, .int .i64 18])) ∧ (ga = true ∧ gb = true → (oa = none ∨ ob = none) → e = .returned (.tuple #[.slice none 0 0, .int .i64 20])) ∧ (ga = true ∧ gb = true → ∀ x y, oa = some x → ob = some y → ∃ va vc, e = .returned (.tuple #[.slice va (frshL x.t.fs y.t.fs).length vc, .int .i64 0]) ∧ RowS w' AnyZ 1 (.slice va (frshL x.t.fs y.t.fs).length vc) (frshL x.t.fs y.t.fs).length ((frshL x.t.fs y.t.fs).flatMap cI64))
def FrA (w : World) (a b : List TV) (nm : List Int) (e : Ending) (w' : World) : Prop := FrX w (goodB a) (goodB b) (msgO a nm) (msgO b nm) e w'
theorem freshFT (w : World) (a b : List TV) (ta tb : Option Addr) (tc td : Nat) (ha : TbR w (.slice ta a.length tc) a) (hb : TbR w (.slice tb b.length td) b) (ka : ∀ x ∈ a, OkV x) (kb : ∀ x ∈ b, OkV x) (nm : List Int) (hn : TxA nm) (m : Int) (hm : w.cell? ⟨0, 0, none⟩ = some (.int .i64 m)) : Calls Tryd.prog 9 #[.agg #[.slice ta a.length tc], .agg #[.slice tb b.length td], .string (strOfNums nm)] w (FrA w a b nm) := by
  have hz : 0 < w.heap.size := World.block_lt_of_cell? _ _ hm
  have HG1 := hid fun W (hW : Below w.heap.size w W) => goodT W a ta tc (ha.kept hW) ka m ((hW.cell (by omega)).trans hm)
  have HG2 := hid fun W (hW : Below w.heap.size w W) => goodT W b tb td (hb.kept hW) kb m ((hW.cell (by omega)).trans hm)
  have HI1 := hid fun (hg : goodB a = true) W (hW : Below w.heap.size w W) => messageInT W a ta tc (ha.kept hW) ka hg nm hn
  have HI2 := hid fun (hg : goodB b = true) W (hW : Below w.heap.size w W) => messageInT W b tb td (hb.kept hW) kb hg nm hn
  have HSA : Hid (∀ x, msgO a nm = some x → (∃ fa fc, x.f = .slice fa x.t.fs.length fc) ∧ (∃ fa fc, x.o = .slice fa x.t.os.length fc) ∧ (∃ fa fc, x.s = .slice fa x.t.ss.length fc) ∧ (∃ fa fc, x.r = .slice fa x.t.rs.length fc)) := hid fun x hx => by
    obtain ⟨ex, i, hi, rfl⟩ := msgO_some hx
    have h1 := ha.ty _ (List.getElem_mem hi)
    obtain ⟨a1, c1, e1, -⟩ := rowS_sl h1.f
    obtain ⟨a3, c3, e3, -⟩ := rowS_sl h1.o
    obtain ⟨a5, c5, e5, -⟩ := rowS_sl h1.s
    obtain ⟨a7, c7, e7, -⟩ := rowS_sl h1.r
    exact ⟨⟨_, _, e1⟩, ⟨_, _, e3⟩, ⟨_, _, e5⟩, ⟨_, _, e7⟩⟩
  have HSB : Hid (∀ x, msgO b nm = some x → (∃ fa fc, x.f = .slice fa x.t.fs.length fc) ∧ (∃ fa fc, x.o = .slice fa x.t.os.length fc) ∧ (∃ fa fc, x.s = .slice fa x.t.ss.length fc) ∧ (∃ fa fc, x.r = .slice fa x.t.rs.length fc)) := hid fun x hx => by
    obtain ⟨ex, i, hi, rfl⟩ := msgO_some hx
    have h1 := hb.ty _ (List.getElem_mem hi)
    obtain ⟨a1, c1, e1, -⟩ := rowS_sl h1.f
    obtain ⟨a3, c3, e3, -⟩ := rowS_sl h1.o
    obtain ⟨a5, c5, e5, -⟩ := rowS_sl h1.s
    obtain ⟨a7, c7, e7, -⟩ := rowS_sl h1.r
    exact ⟨⟨_, _, e1⟩, ⟨_, _, e3⟩, ⟨_, _, e5⟩, ⟨_, _, e7⟩⟩
  have HF : Hid (goodB a = true ∧ goodB b = true → ∀ x y, msgO a nm = some x → msgO b nm = some y → ∀ fa fc fb fd, x.f = .slice fa x.t.fs.length fc → y.f = .slice fb y.t.fs.length fd → ∀ W, Below w.heap.size w W → Calls Tryd.prog 14 #[.slice fa x.t.fs.length fc, .slice fb y.t.fs.length fd] W fun e w' => ∃ va vc, e = .returned (.slice va (frshL x.t.fs y.t.fs).length vc) ∧ RowS w' AnyZ 1 (.slice va (frshL x.t.fs y.t.fs).length vc) (frshL x.t.fs y.t.fs).length ((frshL x.t.fs y.t.fs).flatMap cI64) ∧ Below W.heap.size W w') := hid fun ⟨g1, g2⟩ x y hx hy fa fc fb fd ef eg W hW => by
    obtain ⟨ex, i, hi, rfl⟩ := msgO_some hx
    obtain ⟨ey, j, hj, rfl⟩ := msgO_some hy
    have h1 := ha.ty _ (List.getElem_mem hi)
    have h2 := hb.ty _ (List.getElem_mem hj)
    have q1 := good_TyG g1 ka hi
    have q2 := good_TyG g2 kb hj
    exact (freshT18 W _ _ fa fb fc fd (ef ▸ h1.f.kept hW) (eg ▸ h2.f.kept hW) (q1.ri ex) (q1.fl ex) (q2.fl ey)).mono fun e w' ⟨va, vc, h3, h4, h5⟩ => ⟨va, vc, h3, own_row h4 (fun _ _ => trivial), h5⟩
  clear ha hb ka kb hn hm
  go_enter Tryd.func9, Tryd.ntmps9
  go_wp2_with fail
  refine (HG1.out _ (by exact blBy)).mono ?_
  rintro e w1 ⟨rfl, hb1⟩
  have HB1 : Hid (Below w.heap.size w w1) := hid (bl_then (by exact blBy) hb1)
  have BA : Blk w1 w.heap.size 24 #[.slice ta a.length tc] := ((Blk.new _ _ _).kept (below_alloc _)).kept hb1
  have BB : Blk w1 (w.heap.size + 1) 24 #[.slice tb b.length td] := (Blk.newAt (by simp)).kept hb1
  clear hb1
  have x1 := BA.cellF
  have z1 := BA.lt
  have x2 := BB.cellF
  have z2 := BB.lt
  cases hg1 : goodB a with
  | false =>
    go_wp2
    exact bodyPost_ret (v := .tuple #[.slice none 0 0, .int .i64 18]) (by simp [results, Tryd.results9, go_sem]) rfl ⟨HB1.out, fun _ => rfl, fun h => by rw [hg1] at h; simp at h, fun h => by rw [hg1] at h; simp at h⟩
  | true =>
  go_wp2_with fail
  refine (HG2.out _ HB1.out).mono ?_
  rintro e w2 ⟨rfl, hb2⟩
  have HB2 : Hid (Below w.heap.size w w2) := hid (below_trans HB1.out hb2)
  replace BA := BA.kept hb2
  replace BB := BB.kept hb2
  clear hb2 x1 x2 z1 z2 HB1
  have x1 := BA.cellF
  have z1 := BA.lt
  have x2 := BB.cellF
  have z2 := BB.lt
  cases hg2 : goodB b with
  | false =>
    go_wp2
    exact bodyPost_ret (v := .tuple #[.slice none 0 0, .int .i64 18]) (by simp [results, Tryd.results9, go_sem]) rfl ⟨HB2.out, fun _ => rfl, fun h => by rw [hg2] at h; simp at h, fun h => by rw [hg2] at h; simp at h⟩
  | true =>
  go_wp2_with fail
  refine (HI1.out hg1 _ HB2.out).mono ?_
  rintro e w3 ⟨rfl, hb3⟩
  have HB3 : Hid (Below w.heap.size w w3) := hid (below_trans HB2.out hb3)
  replace BA := BA.kept hb3
  replace BB := BB.kept hb3
  clear hb3 x1 x2 z1 z2 HB2
  have x1 := BA.cellF
  have z1 := BA.lt
  have x2 := BB.cellF
  have z2 := BB.lt
  have HFF := hid (HF.out ⟨hg1, hg2⟩)
  have HGG := hid (And.intro hg1 hg2)
  clear HF HG1 HG2
  replace HI2 := hid (HI2.out hg2)
  have HNO : Hid (msgO a nm = none ∨ msgO b nm = none → ∀ W', Below w.heap.size w W' → FrA w a b nm (.returned (.tuple #[.slice none 0 0, .int .i64 20])) W') := hid fun ho W' hW => ⟨hW, fun h => absurd HGG.out h, fun _ _ => rfl, fun _ x y hx hy => by
    rcases ho with ho | ho
    · rw [ho] at hx; cases hx
    · rw [ho] at hy; cases hy⟩
  have HYES : Hid (∀ x y, msgO a nm = some x → msgO b nm = some y → ∀ va vc W', Below w.heap.size w W' → RowS W' AnyZ 1 (.slice va (frshL x.t.fs y.t.fs).length vc) (frshL x.t.fs y.t.fs).length ((frshL x.t.fs y.t.fs).flatMap cI64) → FrA w a b nm (.returned (.tuple #[.slice va (frshL x.t.fs y.t.fs).length vc, .int .i64 0])) W') := hid fun x y hx hy va vc W' hW hr => ⟨hW, fun h => absurd HGG.out h, (fun _ ho => by
    rcases ho with ho | ho
    · rw [ho] at hx; cases hx
    · rw [ho] at hy; cases hy), fun _ x' y' hx' hy' => by
    rw [hx] at hx'
    rw [hy] at hy'
    cases hx'
    cases hy'
    exact ⟨va, vc, rfl, hr⟩⟩
  cases h1 : msgO a nm with
  | none =>
    replace HNO := hid (HNO.out (.inl h1))
    clear HYES HFF
    dsimp only [tMI]
    go_wp2_with fail
    refine (HI2.out _ (by have := HB3.out; exact blBy)).mono ?_
    rintro e w4 ⟨rfl, hb4⟩
    have HB4 : Hid (Below w.heap.size w w4) := hid (bl_then (by have := HB3.out; exact blBy) hb4)
    have BX : Blk w4 w3.heap.size 35 #[.string ⟨#[]⟩, .bool false, .slice none 0 0, .slice none 0 0, .slice none 0 0, .slice none 0 0] := (Blk.new _ _ _).kept hb4
    clear hb4 x1 x2 z1 z2 BA BB
    have x1 := BX.cellF
    have z1 := BX.lt
    cases h2 : msgO b nm with
    | none =>
      dsimp only [tMI]
      go_wp2
      exact bodyPost_ret (v := .tuple #[.slice none 0 0, .int .i64 20]) (by simp [results, Tryd.results9, go_sem]) rfl (HNO.out _ (by have := HB4.out; exact blBy))
    | some y =>
      obtain ⟨⟨fa2, fc2, ef⟩, ⟨oa2, oc2, eo⟩, ⟨sa2, sc2, es⟩, ⟨ra2, rc2, er⟩⟩ := HSB.out _ h2
      obtain ⟨t2, f, o, s, r⟩ := y
      dsimp only at ef eo es er
      subst ef eo es er
      dsimp only [tMI]
      go_wp2
      exact bodyPost_ret (v := .tuple #[.slice none 0 0, .int .i64 20]) (by simp [results, Tryd.results9, go_sem]) rfl (HNO.out _ (by have := HB4.out; exact blBy))
  | some x =>
    obtain ⟨⟨fa1, fc1, ef⟩, ⟨oa1, oc1, eo⟩, ⟨sa1, sc1, es⟩, ⟨ra1, rc1, er⟩⟩ := HSA.out _ h1
    obtain ⟨t1, f, o, s, r⟩ := x
    dsimp only at ef eo es er
    subst ef eo es er
    dsimp only [tMI]
    go_wp2_with fail
    refine (HI2.out _ (by have := HB3.out; exact blBy)).mono ?_
    rintro e w4 ⟨rfl, hb4⟩
    have HB4 : Hid (Below w.heap.size w w4) := hid (bl_then (by have := HB3.out; exact blBy) hb4)
    have BX : Blk w4 w3.heap.size 35 #[.string (strOfNums t1.name), .bool false, .slice fa1 t1.fs.length fc1, .slice oa1 t1.os.length oc1, .slice sa1 t1.ss.length sc1, .slice ra1 t1.rs.length rc1] := (Blk.new _ _ _).kept hb4
    clear hb4 x1 x2 z1 z2 BA BB
    have x1 := BX.cellF
    have z1 := BX.lt
    cases h2 : msgO b nm with
    | none =>
      replace HNO := hid (HNO.out (.inr h2))
      dsimp only [tMI]
      go_wp2
      exact bodyPost_ret (v := .tuple #[.slice none 0 0, .int .i64 20]) (by simp [results, Tryd.results9, go_sem]) rfl (HNO.out _ (by have := HB4.out; exact blBy))
    | some y =>
      obtain ⟨⟨fa2, fc2, ef⟩, ⟨oa2, oc2, eo⟩, ⟨sa2, sc2, es⟩, ⟨ra2, rc2, er⟩⟩ := HSB.out _ h2
      obtain ⟨t2, f, o, s, r⟩ := y
      dsimp only at ef eo es er
      subst ef eo es er
      replace HYES := hid (HYES.out _ _ h1 h2)
      replace HFF := hid (HFF.out _ _ h1 h2 _ _ _ _ rfl rfl)
      dsimp only [tMI] at HYES HFF ⊢
      generalize frshL t1.fs t2.fs = FL at *
      go_wp2_with fail
      refine (HFF.out _ (by have := HB4.out; exact blBy)).mono ?_
      rintro e w5 ⟨va, vc, rfl, hr, hb5⟩
      have HB5 : Hid (Below w.heap.size w w5) := hid (bl_then (by have := HB4.out; exact blBy) hb5)
      have HR := hid hr
      clear hb5 hr
      go_wp2
      exact bodyPost_ret (v := .tuple #[.slice va FL.length vc, .int .i64 0]) (by simp [results, Tryd.results9, go_sem]) rfl (HYES.out _ _ _ (by have := HB5.out; exact blBy) (HR.out.kept (by first | exact Below.refl _ _ | exact blBy)))
end Go.Proofs.YtmfaakimhgkedaaDoor
namespace Go.Proofs.YtmfaakimhgkedaaDoor
open Go.RowKit
set_option maxRecDepth 1000000
set_option linter.unusedVariables false
set_option linter.unusedSimpArgs false
set_option maxHeartbeats 1000000
/-- Is this the only change? -/
theorem oneT (w : World) (a b : List TV) (ta tb : Option Addr) (tc td : Nat) (ha : TbR w (.slice ta a.length tc) a) (hb : TbR w (.slice tb b.length td) b) (ka : ∀ x ∈ a, OkV x) (kb : ∀ x ∈ b, OkV x) (na : ∀ x ∈ a, x.t.name.length ≤ 4000000) (nb : ∀ x ∈ b, x.t.name.length ≤ 4000000) (m : Int) (hm : w.cell? ⟨0, 0, none⟩ = some (.int .i64 m)) (g1 : goodB a = true) (g2 : goodB b = true) (k wh n : Int) (nm : List Int) (hn : TxA nm) (hk : 1 ≤ k) (hd : difL a b = [⟨k, wh, nm, n⟩]) : Calls Tryd.prog 7 #[.agg #[.slice ta a.length tc], .agg #[.slice tb b.length td], .int .i64 k, .int .i64 wh, .string (strOfNums nm), .int .i64 n] w fun e w' => e = .returned (.bool true) ∧ Below w.heap.size w w' := by
  have HD : Hid (∀ W, Below w.heap.size w W → Calls Tryd.prog 10 #[.agg #[.slice ta a.length tc], .agg #[.slice tb b.length td]] W fun e w' => ∃ va vc, e = .returned (.tuple #[.slice va 1 vc, .int .i64 k, .int .i64 0]) ∧ RowS w' AnyZ 4 (.slice va 1 vc) 1 [.int .i64 k, .int .i64 wh, .string (strOfNums nm), .int .i64 n] ∧ Below W.heap.size W w') := hid fun W hW => (diffT W a b ta tb tc td (ha.kept hW) (hb.kept hW) ka kb na nb m (cell_below hm hW)).mono fun e w' ⟨h1, h2, _⟩ => by
    obtain ⟨va, vc, rfl, h3⟩ := h2 ⟨g1, g2⟩
    rw [hd] at h3 ⊢
    refine ⟨va, vc, ?_, own_row h3 (fun _ _ => trivial), h1⟩
    have : wsC [⟨k, wh, nm, n⟩] = k := by show max 1 k = k; omega
    rw [this]
    rfl
  have HS : Hid (∀ (W : World) (aa ba : Option Addr) (ac bc : Nat), RowS W AnyZ 4 (.slice aa 1 ac) 1 [.int .i64 k, .int .i64 wh, .string (strOfNums nm), .int .i64 n] → RowS W AnyZ 4 (.slice ba 1 bc) 1 [.int .i64 k, .int .i64 wh, .string (strOfNums nm), .int .i64 n] → Calls Tryd.prog 11 #[.slice aa 1 ac, .slice ba 1 bc] W fun e w' => e = .returned (.bool true) ∧ Below W.heap.size W w') := hid fun W aa ba ac bc h1 h2 => (sameCT W [⟨k, wh, nm, n⟩] [⟨k, wh, nm, n⟩] aa ba ac bc h1 h2 (fun x hx => by simp at hx; subst hx; exact hn) (fun x hx => by simp at hx; subst hx; exact hn)).mono fun e w' ⟨r, h3, h4, h5⟩ => by
    obtain rfl := h4.2 rfl
    exact ⟨h3, h5⟩
  clear ha hb ka kb na nb hm hd
  go_enter Tryd.func7, Tryd.ntmps7
  go_wp2_with fail
  refine (HD.out _ (by first | exact Below.refl _ _ | exact blBy)).mono ?_
  rintro e w1 ⟨va, vc, rfl, hr, hb1⟩
  have HR := hid hr
  have HB1 : Hid (Below w.heap.size w w1) := hid (bl_then (by first | exact Below.refl _ _ | exact blBy) hb1)
  clear hr hb1 HD
  have q1 : (k == k) = true := by simp
  go_wp2_with fail
  refine (HS.out _ _ _ _ _ (HR.out.kept (below_alloc _)) (rowOf (Blk.new _ _ _) 4 1 _ rfl rfl (by decide))).mono ?_
  rintro e w2 ⟨rfl, hb2⟩
  have HB2 : Hid (Below w.heap.size w w2) := hid (bl_then (by have := HB1.out; exact blBy) hb2)
  clear hb2
  go_wp2
  go_ret
  exact ⟨rfl, HB2.out⟩
/-- The examples' table in its blocks, its fields as they are. -/
structure SimI (W : World) (h : Nat) (F : Array Value) : Prop where
  s : Blk W (h + 1) 37 simB1
  f : Blk W (h + 1 + 1) 29 F
  t : Blk W (h + 1 + 1 + 1) 35 (simB3 h)
theorem SimI.kept {W W' : World} {h : Nat} {F : Array Value} (g : SimI W h F) (hb : Below W.heap.size W W') : SimI W' h F := ⟨g.s.kept hb, g.f.kept hb, g.t.kept hb⟩
theorem SimI.oth {W : World} {h p i : Nat} {v : Value} {F : Array Value} (g : SimI W h F) (hp : p < h + 1 ∨ h + 1 + 1 + 1 < p) : SimI (W.setCell ⟨p, i, none⟩ v) h F := ⟨g.s.other (by dsimp only; omega) _, g.f.other (by dsimp only; omega) _, g.t.other (by dsimp only; omega) _⟩
theorem SimI.set {W : World} {h i : Nat} {v : Value} {F : Array Value} (g : SimI W h F) : SimI (W.setCell ⟨h + 1 + 1, i, none⟩ v) h (F.setIfInBounds i v) := ⟨g.s.other (by dsimp only; omega) _, g.f.set _ _, g.t.other (by dsimp only; omega) _⟩
theorem SimI.lt {W : World} {h : Nat} {F : Array Value} (g : SimI W h F) : h + 1 + 1 + 1 < W.heap.size := g.t.lt
def simG (h : Nat) (fs : List FT) : List TV := [simE h, ⟨⟨[77], false, fs, [], [], []⟩, .slice (some ⟨h + 1 + 1, 0, none⟩) 3 3, .slice none 0 0, .slice none 0 0, .slice none 0 0⟩]
theorem SimI.tab {W : World} {h : Nat} {F : Array Value} (g : SimI W h F) (fs : List FT) (hF : F = (fs.flatMap cFT).toArray) (hl : fs.length = 3) : TbR W (.slice (some ⟨h + 1 + 1 + 1, 0, none⟩) 2 2) (simG h fs) := by
  refine ⟨rowOf g.t 6 2 _ rfl rfl (by decide), fun x hx => ?_⟩
  rcases List.mem_cons.1 hx with rfl | hx
  · exact ⟨rowS_nil _ _ _, rowS_nil _ _ _, rowOf g.s 2 1 _ rfl rfl (by decide), rowS_nil _ _ _⟩
  · rcases List.mem_cons.1 hx with rfl | hx
    · refine ⟨?_, rowS_nil _ _ _, rowS_nil _ _ _, rowS_nil _ _ _⟩
      have := rowOf g.f 7 3 (fs.flatMap cFT) hF (by rw [flatM_len (g := cFT) (k := 7) (fun _ => rfl), hl]) (by decide)
      show RowS W AnyZ 7 (.slice (some ⟨h + 1 + 1, 0, none⟩) 3 3) fs.length (fs.flatMap cFT)
      rw [hl]
      exact this
    · cases hx
theorem simpleI (w : World) : Calls Tryd.prog 5 #[] w fun e w' => ∃ h, e = .returned (.agg #[.slice (some ⟨h + 1 + 1 + 1, 0, none⟩) 2 2]) ∧ h = w.heap.size ∧ SimI w' h simB2 ∧ Below w.heap.size w w' := (simpleB w).mono fun e w' ⟨h1, h2, h3, h4, h5⟩ => ⟨_, h1, rfl, ⟨h2, h3, h4⟩, h5⟩
def simFa : List FT := [⟨[120], 1, 3, 0, 0, 0, 0⟩, ⟨[108], 2, 4, 0, 3, 0, 0⟩, ⟨[109], 3, 17, 1, 1, 0, 0⟩]
def simFc : List FT := [⟨[120], 1, 2, 0, 0, 0, 0⟩, ⟨[108], 2, 4, 0, 2, 0, 0⟩, ⟨[109], 3, 17, 1, 1, 0, 0⟩]
def symL18 (h : Nat) (sa : Option Addr) (sc : Nat) : List TV := [⟨⟨[69], true, [], [], [⟨[65], 0⟩, ⟨[66], 1⟩], []⟩, .slice none 0 0, .slice none 0 0, .slice sa 2 sc, .slice none 0 0⟩, simM h]
theorem okG (h : Nat) (fs : List FT) (hf : ∀ f ∈ fs, TxA f.name) (hl : fs.length = 3) : ∀ x ∈ simG h fs, OkV x := by
  intro x hx
  rcases List.mem_cons.1 hx with rfl | hx
  · exact simOk h _ (by simp [simL])
  · rcases List.mem_cons.1 hx with rfl | hx
    · have q := simOk h (simM h) (by simp [simL])
      exact ⟨⟨q.ok.nm, hf, by simp, by simp⟩, by simp, by simp [hl]⟩
    · cases hx
theorem okS (h : Nat) (sa : Option Addr) (sc : Nat) : ∀ x ∈ symL18 h sa sc, OkV x := by
  intro x hx
  rcases List.mem_cons.1 hx with rfl | hx
  · refine ⟨⟨(show TxA [69] from ⟨by decide, by decide⟩), by simp, by simp, fun s hs => ?_⟩, by simp, by simp⟩
    simp at hs
    rcases hs with rfl | rfl
    · exact ⟨⟨by decide, by decide⟩, by unfold I64; decide⟩
    · exact ⟨⟨by decide, by decide⟩, by unfold I64; decide⟩
  · rcases List.mem_cons.1 hx with rfl | hx
    · exact simOk h (simM h) (by simp [simL])
    · cases hx
theorem fsA : ∀ f ∈ simFa, TxA f.name := by intro f hf; simp [simFa] at hf; rcases hf with rfl | rfl | rfl <;> exact ⟨by decide, by decide⟩
theorem fsC : ∀ f ∈ simFc, TxA f.name := by intro f hf; simp [simFc] at hf; rcases hf with rfl | rfl | rfl <;> exact ⟨by decide, by decide⟩
theorem gA (h : Nat) : goodB (simG h simFa) = true := by kernel_rfl
theorem gC (h : Nat) : goodB (simG h simFc) = true := by kernel_rfl
theorem gS (h : Nat) (sa : Option Addr) (sc : Nat) : goodB (symL18 h sa sc) = true := by kernel_rfl
theorem dA (h g : Nat) : difL (simL h) (simG g simFa) = [⟨3, 8, [77], 1⟩] := by kernel_rfl
theorem dC (h g : Nat) : difL (simL h) (simG g simFc) = [⟨3, 9, [77], 2⟩] := by kernel_rfl
theorem dS (h g : Nat) (sa : Option Addr) (sc : Nat) : difL (simL h) (symL18 g sa sc) = [⟨3, 4, [69], 1⟩] := by kernel_rfl
theorem dM (h g : Nat) (fa : Option Addr) (fc : Nat) : difL (morL g fa fc) (simL h) = [⟨4, 5, [77], 4⟩] := by kernel_rfl
theorem nmG (h : Nat) (fs : List FT) : ∀ x ∈ simG h fs, x.t.name.length ≤ 4000000 := fun x hx => by simp [simG] at hx; rcases hx with rfl | rfl <;> simp [simE]
theorem nmS (h : Nat) (sa : Option Addr) (sc : Nat) : ∀ x ∈ symL18 h sa sc, x.t.name.length ≤ 4000000 := fun x hx => by simp [symL18] at hx; rcases hx with rfl | rfl <;> simp [simM]
theorem nmL (h : Nat) : ∀ x ∈ simL h, x.t.name.length ≤ 4000000 := fun x hx => by simp [simL] at hx; rcases hx with rfl | rfl <;> simp [simE, simM]
theorem nmM (h : Nat) (fa : Option Addr) (fc : Nat) : ∀ x ∈ morL h fa fc, x.t.name.length ≤ 4000000 := fun x hx => by simp [morL] at hx; rcases hx with rfl | rfl <;> simp [simE]
theorem mM1 (h : Nat) : msgO (simL h) [77] = some (simM h) := by kernel_rfl
theorem mM2 (h : Nat) (fa : Option Addr) (fc : Nat) : msgO (morL h fa fc) [77] = some ⟨⟨[77], false, morF, [], [], []⟩, .slice fa 4 fc, .slice none 0 0, .slice none 0 0, .slice none 0 0⟩ := by kernel_rfl
theorem mE1 (h : Nat) : msgO (simL h) [69] = none := by kernel_rfl
/-- Fresh at the examples. -/
theorem freshM (w : World) (h g : Nat) (fa ta tb : Option Addr) (fc : Nat) (ha : TbR w (.slice ta 2 2) (simL h)) (hb : TbR w (.slice tb 2 2) (morL g fa fc)) (m : Int) (hm : w.cell? ⟨0, 0, none⟩ = some (.int .i64 m)) : Calls Tryd.prog 9 #[.agg #[.slice ta 2 2], .agg #[.slice tb 2 2], .string ⟨#[77]⟩] w fun e w' => ∃ va vc, e = .returned (.tuple #[.slice va 1 vc, .int .i64 0]) ∧ RowS w' AnyZ 1 (.slice va 1 vc) 1 [.int .i64 4] ∧ Below w.heap.size w w' :=
  (freshFT w (simL h) (morL g fa fc) ta tb 2 2 ha hb (simOk h) (morOk g fa fc) [77] ⟨by decide, by decide⟩ m hm).mono fun e w' ⟨h1, _, _, h4⟩ => by
    obtain ⟨va, vc, h5, h6⟩ := h4 ⟨simGood h, morGood g fa fc⟩ _ _ (mM1 h) (mM2 g fa fc)
    exact ⟨va, vc, h5, h6, h1⟩
theorem freshE (w : World) (h g : Nat) (fa ta tb : Option Addr) (fc : Nat) (ha : TbR w (.slice ta 2 2) (simL h)) (hb : TbR w (.slice tb 2 2) (morL g fa fc)) (m : Int) (hm : w.cell? ⟨0, 0, none⟩ = some (.int .i64 m)) : Calls Tryd.prog 9 #[.agg #[.slice ta 2 2], .agg #[.slice tb 2 2], .string ⟨#[69]⟩] w fun e w' => e = .returned (.tuple #[.slice none 0 0, .int .i64 20]) ∧ Below w.heap.size w w' :=
  (freshFT w (simL h) (morL g fa fc) ta tb 2 2 ha hb (simOk h) (morOk g fa fc) [69] ⟨by decide, by decide⟩ m hm).mono fun e w' ⟨h1, _, h3, _⟩ => ⟨h3 ⟨simGood h, morGood g fa fc⟩ (.inl (mE1 h)), h1⟩
theorem Tryd.infoSY18 : (Tryd.prog.info? 37).map (fun i => (i.zero, i.size, i.bytes)) = some (some (.agg #[.string ⟨#[]⟩, .int .i64 0]), 2, 24) := by kernel_rfl
/-- The examples' table with a symbol more, in its blocks. -/
structure SymI (W : World) (h : Nat) (sa : Option Addr) (sc : Nat) : Prop where
  s : W.ownsRow (h + 1) 37 2 (.slice sa 2 sc) 2 [.string ⟨#[65]⟩, .int .i64 0, .string ⟨#[66]⟩, .int .i64 1]
  f : Blk W (h + 1 + 1) 29 simB2
  t : Blk W (h + 1 + 1 + 1) 35 ((simB3 h).setIfInBounds 4 (.slice sa 2 sc))
theorem SymI.kept {W W' : World} {h sc : Nat} {sa : Option Addr} (g : SymI W h sa sc) (hb : Below W.heap.size W W') : SymI W' h sa sc := ⟨own_kept g.s hb, g.f.kept hb, g.t.kept hb⟩
theorem SymI.oth {W : World} {h sc p i : Nat} {sa : Option Addr} {v : Value} {cs : Array Value} (g : SymI W h sa sc) (hp : h + 1 + 1 + 1 < p) (hB : Blk W p 29 cs) : SymI (W.setCell ⟨p, i, none⟩ v) h sa sc := ⟨own_set18 g.s hB (by decide), g.f.other (by dsimp only; omega) _, g.t.other (by dsimp only; omega) _⟩
theorem SymI.tab {W : World} {h sc : Nat} {sa : Option Addr} (g : SymI W h sa sc) : TbR W (.slice (some ⟨h + 1 + 1 + 1, 0, none⟩) 2 2) (symL18 h sa sc) := by
  refine ⟨rowOf g.t 6 2 _ rfl rfl (by decide), fun x hx => ?_⟩
  rcases List.mem_cons.1 hx with rfl | hx
  · exact ⟨rowS_nil _ _ _, rowS_nil _ _ _, own_row g.s (fun _ _ => trivial), rowS_nil _ _ _⟩
  · rcases List.mem_cons.1 hx with rfl | hx
    · exact ⟨rowOf g.f 7 3 _ rfl rfl (by decide), rowS_nil _ _ _, rowS_nil _ _ _, rowS_nil _ _ _⟩
    · cases hx
end Go.Proofs.YtmfaakimhgkedaaDoor
namespace Go.Proofs.YtmfaakimhgkedaaDoor
open Go.RowKit
set_option maxRecDepth 1000000
set_option linter.unusedVariables false
set_option linter.unusedSimpArgs false
set_option maxHeartbeats 1000000
theorem below_trans' {w w1 w2 : World} (h1 : Below w.heap.size w w1) (h2 : Below w1.heap.size w1 w2) : Below w.heap.size w w2 := below_trans h1 h2
theorem evolveKnownW (w : World) (m : Int) (hm : w.cell? ⟨0, 0, none⟩ = some (.int .i64 m)) : Calls Tryd.prog 3 #[] w fun e w' => e = .returned (.bool true) ∧ Below w.heap.size w w' := by
  have HM := hid hm
  clear hm
  go_enter Tryd.func3, Tryd.ntmps3
  go_wp2_with fail
  refine (simpleI _).mono ?_
  rintro e w1 ⟨h, rfl, eh, i1, hb1⟩
  have HL : Hid (Below w.heap.size w w1) := hid (bl_then (by first | exact Below.refl _ _ | exact blBy) hb1)
  have hz : w.heap.size ≤ h := by omega
  clear hb1 eh
  go_upto_region 2 with fail
  have BT : Blk (w1.alloc (.cells #[.slice (some ⟨h + 1 + 1 + 1, 0, none⟩) 2 2] 24)) w1.heap.size 24 #[.slice (some ⟨h + 1 + 1 + 1, 0, none⟩) 2 2] := Blk.new _ _ _
  have ht := i1.lt
  replace i1 := i1.kept (below_alloc (.cells #[.slice (some ⟨h + 1 + 1 + 1, 0, none⟩) 2 2] 24))
  replace HL := hid (below_trans HL.out (below_alloc (.cells #[.slice (some ⟨h + 1 + 1 + 1, 0, none⟩) 2 2] 24)))
  generalize w1.heap.size = vt at *
  generalize w1.alloc (.cells #[.slice (some ⟨h + 1 + 1 + 1, 0, none⟩) 2 2] 24) = U at *
  have HBT := hid BT
  have HI1 := hid i1
  have HO : Hid (∀ (W : World) (g : Nat) (fa ta : Option Addr) (fc : Nat), Below U.heap.size U W → TbR W (.slice ta 2 2) (morL g fa fc) → Calls Tryd.prog 7 #[.agg #[.slice ta 2 2], .agg #[.slice (some ⟨h + 1 + 1 + 1, 0, none⟩) 2 2], .int .i64 4, .int .i64 5, .string ⟨#[77]⟩, .int .i64 4] W fun e w' => e = .returned (.bool true) ∧ Below W.heap.size W w') := hid fun W g fa ta fc hW hT => oneT W (morL g fa fc) (simL h) ta _ 2 2 hT ((HI1.out.kept hW).tab simF rfl rfl) (morOk g fa fc) (simOk h) (nmM g fa fc) (nmL h) m (cell_below HM.out (below_trans HL.out hW)) (morGood g fa fc) (simGood h) 4 5 4 [77] ⟨by decide, by decide⟩ (by decide) (dM h g fa fc)
  clear BT i1
  have HU : Hid (Below U.heap.size U U) := hid (Below.refl _ _)
  go_region_held3 (fun W => W.cell? ⟨vt, 0, none⟩ = some (.slice (some ⟨h + 1 + 1 + 1, 0, none⟩) 2 2)) (exact (HBT.out.kept HU.out).cell 0 _ rfl) (first | (go_at_call 6; refine (awake18 _ m (cell_below HM.out (below_trans (below_trans HL.out HU.out) (by first | exact below_drew1 _ | exact Below.refl _ _)))).mono ?_; rintro e u1 ⟨rfl, hu1⟩; replace HU := hid (below_trans HU.out (below_trans (by first | exact below_drew1 _ | exact Below.refl _ _) hu1)); clear hu1) | (go_at_call 8; refine (moreW _).mono ?_; rintro e u2 ⟨g2, fa, fc, ta, rfl, ht2, hu2⟩; have HT2 := hid ht2; replace HU := hid (below_trans HU.out (below_trans (by first | exact below_drew1 _ | exact Below.refl _ _) hu2)); clear hu2 ht2) | (go_at_call 7; refine (HO.out _ _ _ _ _ (below_trans HU.out (by first | exact below_drew1 _ | exact Below.refl _ _)) (HT2.out.kept (by first | exact below_drew1 _ | exact Below.refl _ _))).mono ?_; rintro e u3 ⟨rfl, hu3⟩; replace HU := hid (below_trans HU.out (below_trans (by first | exact below_drew1 _ | exact Below.refl _ _) hu3)); clear hu3))
  all_goals replace HBT := hid (HBT.out.kept HU.out)
  all_goals replace HI1 := hid (HI1.out.kept HU.out)
  all_goals replace HL := hid (below_trans HL.out HU.out)
  all_goals clear HU HO HT2
  rename_i hHeld
  clear hHeld
  have y0 := HBT.out.lt
  go_wp2_with fail
  refine (simpleI _).mono ?_
  rintro e w2 ⟨h2, rfl, eh2, i2, hb2⟩
  have hz2 : u3.heap.size ≤ h2 := by omega
  have hz2' : vt < h2 := by omega
  replace HBT := hid (HBT.out.kept hb2)
  replace HI1 := hid (HI1.out.kept hb2)
  replace HL := hid (below_trans HL.out hb2)
  clear hb2 eh2 y0
  have c8 : w2.cell? ⟨h2 + 1 + 1 + 1, 8, none⟩ = some (.slice (some ⟨h2 + 1 + 1, 0, none⟩) 3 3) := i2.t.cell 8 _ rfl
  have c2 : w2.cell? ⟨h2 + 1 + 1, 2, none⟩ = some (.int .i64 2) := i2.f.cell 2 _ rfl
  have f2 := i2.f.frz 2
  have y2 := i2.f.lt
  have y3 := i2.t.lt
  go_upto_region 6 with fail
  have BA : Blk ((w2.setCell ⟨h2 + 1 + 1, 2, none⟩ (.int .i64 3)).alloc (.cells #[.slice (some ⟨h2 + 1 + 1 + 1, 0, none⟩) 2 2] 24)) w2.heap.size 24 #[.slice (some ⟨h2 + 1 + 1 + 1, 0, none⟩) 2 2] := Blk.newAt (by simp [World.setCell])
  replace HBT := hid ((HBT.out.other (a := ⟨h2 + 1 + 1, 2, none⟩) (by dsimp only; omega) (.int .i64 3)).kept (below_alloc (.cells #[.slice (some ⟨h2 + 1 + 1 + 1, 0, none⟩) 2 2] 24)))
  replace HI1 := hid ((HI1.out.oth (p := h2 + 1 + 1) (i := 2) (v := .int .i64 3) (.inr (by omega))).kept (below_alloc (.cells #[.slice (some ⟨h2 + 1 + 1 + 1, 0, none⟩) 2 2] 24)))
  have HI2 := hid ((i2.set (i := 2) (v := .int .i64 3)).kept (below_alloc (.cells #[.slice (some ⟨h2 + 1 + 1 + 1, 0, none⟩) 2 2] 24)))
  replace HL := hid (below_trans' (bl_set (p := ⟨h2 + 1 + 1, 2, none⟩) HL.out (by dsimp only; have := HL.out.size; omega) (.int .i64 3)) (below_alloc (.cells #[.slice (some ⟨h2 + 1 + 1 + 1, 0, none⟩) 2 2] 24)))
  clear i2 c8 c2 f2 y2
  generalize w2.heap.size = va at *
  generalize (w2.setCell ⟨h2 + 1 + 1, 2, none⟩ (.int .i64 3)).alloc (.cells #[.slice (some ⟨h2 + 1 + 1 + 1, 0, none⟩) 2 2] 24) = V at *
  have HBA := hid BA
  have yV := BA.lt
  clear BA
  go_wp2_with fail
  refine (simpleI _).mono ?_
  rintro e w3 ⟨h3, rfl, eh3, i3, hb3⟩
  have hz3 : va < h3 := by omega
  replace HBT := hid (HBT.out.kept hb3)
  replace HBA := hid (HBA.out.kept hb3)
  replace HI1 := hid (HI1.out.kept hb3)
  replace HI2 := hid (HI2.out.kept hb3)
  replace HL := hid (below_trans HL.out hb3)
  clear hb3 eh3 yV
  go_upto_region 7 with fail
  have BB : Blk (w3.alloc (.cells #[.slice (some ⟨h3 + 1 + 1 + 1, 0, none⟩) 2 2] 24)) w3.heap.size 24 #[.slice (some ⟨h3 + 1 + 1 + 1, 0, none⟩) 2 2] := Blk.new _ _ _
  have y3' := i3.lt
  replace HBT := hid (HBT.out.kept (below_alloc (.cells #[.slice (some ⟨h3 + 1 + 1 + 1, 0, none⟩) 2 2] 24)))
  replace HBA := hid (HBA.out.kept (below_alloc (.cells #[.slice (some ⟨h3 + 1 + 1 + 1, 0, none⟩) 2 2] 24)))
  replace HI1 := hid (HI1.out.kept (below_alloc (.cells #[.slice (some ⟨h3 + 1 + 1 + 1, 0, none⟩) 2 2] 24)))
  replace HI2 := hid (HI2.out.kept (below_alloc (.cells #[.slice (some ⟨h3 + 1 + 1 + 1, 0, none⟩) 2 2] 24)))
  have HI3 := hid (i3.kept (below_alloc (.cells #[.slice (some ⟨h3 + 1 + 1 + 1, 0, none⟩) 2 2] 24)))
  replace HL := hid (below_trans HL.out (below_alloc (.cells #[.slice (some ⟨h3 + 1 + 1 + 1, 0, none⟩) 2 2] 24)))
  clear i3
  generalize w3.heap.size = vb at *
  generalize w3.alloc (.cells #[.slice (some ⟨h3 + 1 + 1 + 1, 0, none⟩) 2 2] 24) = X at *
  have HBB := hid BB
  clear BB
  go_cut [] from 9 (fun wc => ∃ (sa : Option Addr) (sc : Nat), Hid (SymI wc h3 sa sc) ∧ Hid (SimI wc h simB2) ∧ Hid (SimI wc h2 (simB2.setIfInBounds 2 (.int .i64 3))) ∧ Hid (Blk wc vt 24 #[.slice (some ⟨h + 1 + 1 + 1, 0, none⟩) 2 2]) ∧ Hid (Blk wc va 24 #[.slice (some ⟨h2 + 1 + 1 + 1, 0, none⟩) 2 2]) ∧ Hid (Blk wc vb 24 #[.slice (some ⟨h3 + 1 + 1 + 1, 0, none⟩) 2 2]) ∧ Hid (Below w.heap.size w wc))
  case first =>
    have xb := HBB.out.cellF
    have zb := HBB.out.lt
    have c4 : X.cell? ⟨h3 + 1 + 1 + 1, 4, none⟩ = some (.slice (some ⟨h3 + 1, 0, none⟩) 1 1) := HI3.out.t.cell 4 _ rfl
    have z3 := HI3.out.lt
    obtain ⟨a, c, w', HRUN, HO, HB, HBL⟩ := appB 37 32 2 24 (.agg #[.string ⟨#[]⟩, .int .i64 0]) Tryd.underlying32 Tryd.infoSY18 rfl (by decide) (by decide) X.drew (h3 + 1) 1 simB1 #[.string ⟨#[66]⟩, .int .i64 1] (HI3.out.s.kept (below_drew1 _)) rfl (by decide) rfl (fun u hu => by simp at hu; rcases hu with rfl | rfl <;> rfl)
    have HK : Hid (∀ p u ds, Blk X p u ds → p ≠ h3 + 1 → p ≠ h3 + 1 + 1 + 1 → Blk (w'.setCell ⟨h3 + 1 + 1 + 1, 4, none⟩ (.slice a (1 + 1) c)) p u ds) := hid fun p u ds hp h1 h2 => (HB.out p u ds (hp.kept (below_drew1 _)) h1).other h2 _
    have D3 := HB.out _ _ _ (HI3.out.t.kept (below_drew1 _)) (by omega)
    have HREL : Hid (∃ (sa : Option Addr) (sc : Nat), Hid (SymI (w'.setCell ⟨h3 + 1 + 1 + 1, 4, none⟩ (.slice a (1 + 1) c)) h3 sa sc) ∧ Hid (SimI (w'.setCell ⟨h3 + 1 + 1 + 1, 4, none⟩ (.slice a (1 + 1) c)) h simB2) ∧ Hid (SimI (w'.setCell ⟨h3 + 1 + 1 + 1, 4, none⟩ (.slice a (1 + 1) c)) h2 (simB2.setIfInBounds 2 (.int .i64 3))) ∧ Hid (Blk (w'.setCell ⟨h3 + 1 + 1 + 1, 4, none⟩ (.slice a (1 + 1) c)) vt 24 #[.slice (some ⟨h + 1 + 1 + 1, 0, none⟩) 2 2]) ∧ Hid (Blk (w'.setCell ⟨h3 + 1 + 1 + 1, 4, none⟩ (.slice a (1 + 1) c)) va 24 #[.slice (some ⟨h2 + 1 + 1 + 1, 0, none⟩) 2 2]) ∧ Hid (Blk (w'.setCell ⟨h3 + 1 + 1 + 1, 4, none⟩ (.slice a (1 + 1) c)) vb 24 #[.slice (some ⟨h3 + 1 + 1 + 1, 0, none⟩) 2 2]) ∧ Hid (Below w.heap.size w (w'.setCell ⟨h3 + 1 + 1 + 1, 4, none⟩ (.slice a (1 + 1) c)))) := hid (by
      have hw := HL.out.size
      have hl3 := HBL.out w (bl_drew HL.out) (by omega)
      refine ⟨a, c, hid ⟨own_set18 HO.out D3 (by decide), HK.out _ _ _ HI3.out.f (by omega) (by omega), D3.set 4 _⟩, hid ⟨HK.out _ _ _ HI1.out.s (by omega) (by omega), HK.out _ _ _ HI1.out.f (by omega) (by omega), HK.out _ _ _ HI1.out.t (by omega) (by omega)⟩, hid ⟨HK.out _ _ _ HI2.out.s (by omega) (by omega), HK.out _ _ _ HI2.out.f (by omega) (by omega), HK.out _ _ _ HI2.out.t (by omega) (by omega)⟩, hid (HK.out _ _ _ HBT.out (by omega) (by omega)), hid (HK.out _ _ _ HBA.out (by omega) (by omega)), hid (HK.out _ _ _ HBB.out (by omega) (by omega)), hid (bl_set hl3 (by dsimp only; omega) _)⟩)
    have DB := HB.out _ _ _ (HBB.out.kept (below_drew1 _)) (by omega)
    have xB := DB.cellF
    have zB := DB.lt
    have x3 := D3.frz 4
    have y4 := D3.lt
    have e4 : w'.cell? ⟨h3 + 1 + 1 + 1, 4, none⟩ = some (.slice (some ⟨h3 + 1, 0, none⟩) 1 1) := D3.cell 4 _ rfl
    clear HB HBL HO HK D3 DB HBT HBA HBB HI1 HI2 HI3 HL
    go_region_law (first | (refine step_append18 rfl _ _ 32 32 rfl rfl _ _ (.slice a (1 + 1) c) w' rfl rfl HRUN.out ?_))
    all_goals go_wp2_with fail
    all_goals go_meet
    all_goals exact HREL.out
  case rest =>
  clear HBT HBA HBB HI1 HI2 HI3 HL
  obtain ⟨sa, sc, HI3, HI1, HI2, HBT, HBA, HBB, HL⟩ := hcut
  have yv := HBB.out.lt
  go_wp2_with fail
  refine (simpleI _).mono ?_
  rintro e w4 ⟨h4, rfl, eh4, i4, hb4⟩
  have hz4 : vb < h4 := by omega
  replace HBT := hid (HBT.out.kept hb4)
  replace HBA := hid (HBA.out.kept hb4)
  replace HBB := hid (HBB.out.kept hb4)
  replace HI1 := hid (HI1.out.kept hb4)
  replace HI2 := hid (HI2.out.kept hb4)
  replace HI3 := hid (HI3.out.kept hb4)
  replace HL := hid (below_trans HL.out hb4)
  clear hb4 eh4 yv
  have c8 : w4.cell? ⟨h4 + 1 + 1 + 1, 8, none⟩ = some (.slice (some ⟨h4 + 1 + 1, 0, none⟩) 3 3) := i4.t.cell 8 _ rfl
  have c2 : w4.cell? ⟨h4 + 1 + 1, 11, none⟩ = some (.int .i64 3) := i4.f.cell 11 _ rfl
  have f2 := i4.f.frz 11
  have y2 := i4.f.lt
  have y4 := i4.t.lt
  go_upto_region 10 with fail
  have BC : Blk ((w4.setCell ⟨h4 + 1 + 1, 11, none⟩ (.int .i64 2)).alloc (.cells #[.slice (some ⟨h4 + 1 + 1 + 1, 0, none⟩) 2 2] 24)) w4.heap.size 24 #[.slice (some ⟨h4 + 1 + 1 + 1, 0, none⟩) 2 2] := Blk.newAt (by simp [World.setCell])
  replace HBT := hid ((HBT.out.other (a := ⟨h4 + 1 + 1, 11, none⟩) (by dsimp only; omega) (.int .i64 2)).kept (below_alloc (.cells #[.slice (some ⟨h4 + 1 + 1 + 1, 0, none⟩) 2 2] 24)))
  replace HBA := hid ((HBA.out.other (a := ⟨h4 + 1 + 1, 11, none⟩) (by dsimp only; omega) (.int .i64 2)).kept (below_alloc (.cells #[.slice (some ⟨h4 + 1 + 1 + 1, 0, none⟩) 2 2] 24)))
  replace HBB := hid ((HBB.out.other (a := ⟨h4 + 1 + 1, 11, none⟩) (by dsimp only; omega) (.int .i64 2)).kept (below_alloc (.cells #[.slice (some ⟨h4 + 1 + 1 + 1, 0, none⟩) 2 2] 24)))
  replace HI1 := hid ((HI1.out.oth (p := h4 + 1 + 1) (i := 11) (v := .int .i64 2) (.inr (by omega))).kept (below_alloc (.cells #[.slice (some ⟨h4 + 1 + 1 + 1, 0, none⟩) 2 2] 24)))
  replace HI2 := hid ((HI2.out.oth (p := h4 + 1 + 1) (i := 11) (v := .int .i64 2) (.inr (by omega))).kept (below_alloc (.cells #[.slice (some ⟨h4 + 1 + 1 + 1, 0, none⟩) 2 2] 24)))
  replace HI3 := hid ((HI3.out.oth (p := h4 + 1 + 1) (i := 11) (v := .int .i64 2) (by omega) i4.f).kept (below_alloc (.cells #[.slice (some ⟨h4 + 1 + 1 + 1, 0, none⟩) 2 2] 24)))
  have HI4 := hid ((i4.set (i := 11) (v := .int .i64 2)).kept (below_alloc (.cells #[.slice (some ⟨h4 + 1 + 1 + 1, 0, none⟩) 2 2] 24)))
  replace HL := hid (below_trans' (bl_set (p := ⟨h4 + 1 + 1, 11, none⟩) HL.out (by dsimp only; have := HL.out.size; omega) (.int .i64 2)) (below_alloc (.cells #[.slice (some ⟨h4 + 1 + 1 + 1, 0, none⟩) 2 2] 24)))
  clear i4 c8 c2 f2 y2
  generalize w4.heap.size = vc at *
  generalize (w4.setCell ⟨h4 + 1 + 1, 11, none⟩ (.int .i64 2)).alloc (.cells #[.slice (some ⟨h4 + 1 + 1 + 1, 0, none⟩) 2 2] 24) = Y at *
  have HBC := hid BC
  have HT1 : Hid (TbR Y (.slice (some ⟨h + 1 + 1 + 1, 0, none⟩) 2 2) (simL h)) := hid (HI1.out.tab simF rfl rfl)
  have HT2 := hid (HI2.out.tab simFa rfl rfl)
  have HT3 := hid HI3.out.tab
  have HT4 := hid (HI4.out.tab simFc rfl rfl)
  clear BC HI1 HI2 HI3 HI4
  have HO2 := hid fun W (hW : Below Y.heap.size Y W) => oneT W (simL h) (simG h2 simFa) _ _ 2 2 (HT1.out.kept hW) (HT2.out.kept hW) (simOk h) (okG h2 simFa fsA rfl) (nmL h) (nmG h2 simFa) m (cell_below HM.out (below_trans HL.out hW)) (simGood h) (gA h2) 3 8 1 [77] ⟨by decide, by decide⟩ (by decide) (dA h h2)
  have HO3 := hid fun W (hW : Below Y.heap.size Y W) => oneT W (simL h) (symL18 h3 sa sc) _ _ 2 2 (HT1.out.kept hW) (HT3.out.kept hW) (simOk h) (okS h3 sa sc) (nmL h) (nmS h3 sa sc) m (cell_below HM.out (below_trans HL.out hW)) (simGood h) (gS h3 sa sc) 3 4 1 [69] ⟨by decide, by decide⟩ (by decide) (dS h h3 sa sc)
  have HO4 := hid fun W (hW : Below Y.heap.size Y W) => oneT W (simL h) (simG h4 simFc) _ _ 2 2 (HT1.out.kept hW) (HT4.out.kept hW) (simOk h) (okG h4 simFc fsC rfl) (nmL h) (nmG h4 simFc) m (cell_below HM.out (below_trans HL.out hW)) (simGood h) (gC h4) 3 9 2 [77] ⟨by decide, by decide⟩ (by decide) (dC h h4)
  clear HT2 HT3 HT4
  have HU : Hid (Below Y.heap.size Y Y) := hid (Below.refl _ _)
  go_region_held3 (fun W => W.cell? ⟨vt, 0, none⟩ = some (.slice (some ⟨h + 1 + 1 + 1, 0, none⟩) 2 2)) (exact (HBT.out.kept HU.out).cell 0 _ rfl) (first | (go_at_call 8; refine (moreW _).mono ?_; rintro e u5 ⟨g5, fa5, fc5, ta5, rfl, ht5, hu5⟩; have HT5 := hid ht5; replace HU := hid (below_trans HU.out (below_trans (by first | exact below_drew1 _ | exact Below.refl _ _) hu5)); clear hu5 ht5) | (go_at_call 9; refine (freshM _ h g5 fa5 _ _ fc5 (HT1.out.kept (below_trans HU.out (by first | exact below_drew1 _ | exact Below.refl _ _))) (HT5.out.kept (by first | exact below_drew1 _ | exact Below.refl _ _)) m (cell_below HM.out (below_trans (below_trans HL.out HU.out) (by first | exact below_drew1 _ | exact Below.refl _ _)))).mono ?_; rintro e u6 ⟨va6, vc6, rfl, hr6, hu6⟩; have HR6 := hid hr6; replace HU := hid (below_trans HU.out (below_trans (by first | exact below_drew1 _ | exact Below.refl _ _) hu6)); clear hu6 hr6))
  all_goals clear HT5
  go_upto_region 11 with fail
  go_region_held3 (fun W => W.cell? ⟨vt, 0, none⟩ = some (.slice (some ⟨h + 1 + 1 + 1, 0, none⟩) 2 2)) (exact (HBT.out.kept HU.out).cell 0 _ rfl) (first | (go_at_call 8; refine (moreW _).mono ?_; rintro e u5 ⟨g5, fa5, fc5, ta5, rfl, ht5, hu5⟩; have HT5 := hid ht5; replace HR6 := hid (HR6.out.kept (below_trans (by first | exact below_drew1 _ | exact Below.refl _ _) hu5)); replace HU := hid (below_trans HU.out (below_trans (by first | exact below_drew1 _ | exact Below.refl _ _) hu5)); clear hu5 ht5) | (go_at_call 9; refine (freshE _ h g5 fa5 _ _ fc5 (HT1.out.kept (below_trans HU.out (by first | exact below_drew1 _ | exact Below.refl _ _))) (HT5.out.kept (by first | exact below_drew1 _ | exact Below.refl _ _)) m (cell_below HM.out (below_trans (below_trans HL.out HU.out) (by first | exact below_drew1 _ | exact Below.refl _ _)))).mono ?_; rintro e u7 ⟨rfl, hu7⟩; replace HR6 := hid (HR6.out.kept (below_trans (by first | exact below_drew1 _ | exact Below.refl _ _) hu7)); replace HU := hid (below_trans HU.out (below_trans (by first | exact below_drew1 _ | exact Below.refl _ _) hu7)); clear hu7))
  rename_i hHeld
  clear hHeld HT5 HT1
  replace HBT := hid (HBT.out.kept HU.out)
  replace HBA := hid (HBA.out.kept HU.out)
  replace HBB := hid (HBB.out.kept HU.out)
  replace HBC := hid (HBC.out.kept HU.out)
  have x1 := HBT.out.cellF
  have z1 := HBT.out.lt
  have x2 := HBA.out.cellF
  have z2 := HBA.out.lt
  have x3 := HBB.out.cellF
  have z3 := HBB.out.lt
  have x4 := HBC.out.cellF
  have z4 := HBC.out.lt
  go_wp2_with fail
  refine (HO2.out _ HU.out).mono ?_
  rintro e u8 ⟨rfl, hb⟩
  replace HBT := hid (HBT.out.kept hb)
  replace HBA := hid (HBA.out.kept hb)
  replace HBB := hid (HBB.out.kept hb)
  replace HBC := hid (HBC.out.kept hb)
  replace HU := hid (below_trans HU.out hb)
  replace HR6 := hid (HR6.out.kept hb)
  clear hb
  clear x1 x2 x3 x4 z1 z2 z3 z4
  have x1 := HBT.out.cellF
  have z1 := HBT.out.lt
  have x2 := HBA.out.cellF
  have z2 := HBA.out.lt
  have x3 := HBB.out.cellF
  have z3 := HBB.out.lt
  have x4 := HBC.out.cellF
  have z4 := HBC.out.lt
  go_wp2_with fail
  refine (HO3.out _ HU.out).mono ?_
  rintro e u9 ⟨rfl, hb⟩
  replace HBT := hid (HBT.out.kept hb)
  replace HBA := hid (HBA.out.kept hb)
  replace HBB := hid (HBB.out.kept hb)
  replace HBC := hid (HBC.out.kept hb)
  replace HU := hid (below_trans HU.out hb)
  replace HR6 := hid (HR6.out.kept hb)
  clear hb
  clear x1 x2 x3 x4 z1 z2 z3 z4
  have x1 := HBT.out.cellF
  have z1 := HBT.out.lt
  have x2 := HBA.out.cellF
  have z2 := HBA.out.lt
  have x3 := HBB.out.cellF
  have z3 := HBB.out.lt
  have x4 := HBC.out.cellF
  have z4 := HBC.out.lt
  go_wp2_with fail
  refine (HO4.out _ HU.out).mono ?_
  rintro e u10 ⟨rfl, hb⟩
  replace HBT := hid (HBT.out.kept hb)
  replace HBA := hid (HBA.out.kept hb)
  replace HBB := hid (HBB.out.kept hb)
  replace HBC := hid (HBC.out.kept hb)
  replace HU := hid (below_trans HU.out hb)
  replace HR6 := hid (HR6.out.kept hb)
  clear hb
  clear x1 x2 x3 x4 z1 z2 z3 z4
  have x1 := HBT.out.cellF
  have z1 := HBT.out.lt
  have x2 := HBA.out.cellF
  have z2 := HBA.out.lt
  have x3 := HBB.out.cellF
  have z3 := HBB.out.lt
  have x4 := HBC.out.cellF
  have z4 := HBC.out.lt
  obtain ⟨lb, lo, el, hc⟩ := rowAt (g := cI64) (K := 1) (l := [4]) (fun _ => rfl) HR6.out (i := 0) (x := 4) rfl
  have c0 := hc 0 _ rfl
  have zl := World.block_lt_of_cell? _ _ c0
  subst el
  clear hc HR6
  simp only [Nat.zero_mul, Nat.add_zero] at c0
  go_wp2
  go_ret
  exact ⟨rfl, below_trans HL.out HU.out⟩
end Go.Proofs.YtmfaakimhgkedaaDoor
namespace Go.Proofs.YtmfaakimhgkedaaDoor
open Go.ChangeShapes Go.WideShapes Go.ChangeAt Go.RowKit Go.Deep
set_option maxRecDepth 1000000
section
variable {H : Type}
end
end Go.Proofs.YtmfaakimhgkedaaDoor
namespace Go.Proofs.YtmfaakimhgkedaaDoor
open Go.ChangeShapes Go.WideShapes Go.ChangeAt Go.RowKit Go.Deep
set_option maxRecDepth 1000000
set_option linter.unusedVariables false
set_option linter.unusedSimpArgs false
set_option maxHeartbeats 1000000
section
variable {H : Type} {enc : TypeId × Value → H} {W : World} {spare : Nat → Bool} {held : Bool}
end
end Go.Proofs.YtmfaakimhgkedaaDoor
namespace Go.Proofs.YtmfaakimhgkedaaDoor
open Go.ChangeShapes Go.WideShapes Go.ChangeAt Go.RowKit Go.Deep
set_option maxRecDepth 1000000
set_option linter.unusedVariables false
set_option linter.unusedSimpArgs false
set_option maxHeartbeats 1000000
section
variable {H : Type} {enc : TypeId × Value → H} {W : World} {spare : Nat → Bool} {held : Bool}
end
end Go.Proofs.YtmfaakimhgkedaaDoor
namespace Go.Proofs.YtmfaakimhgkedaaDoor
open Go.ChangeShapes Go.WideShapes Go.ChangeAt Go.RowKit
set_option maxRecDepth 1000000
set_option maxRecDepth 100000
/-- The rows' list. -/
def laidL : List (String × DataW Unit) := [("unicode/utf8.acceptRanges", Rows.laid_unicode_utf8_acceptRanges), ("unicode/utf8.first", Rows.laid_unicode_utf8_first)]
theorem laid_plain {W : World} (h : laidMetH Tryd.prog laidL W) : laidMet Tryd.prog laidL W := h
/-- A block's cells laid anew. -/
noncomputable def layAt (g : Nat) (cs : Array Value) (w : World) : World := { w with heap := w.heap.modify g fun
      | .cells _ t frozen => .cells cs t frozen
      | o => o }
def numV : DataW Unit → Value
  | .lit (.int k n) => .int k n
  | _ => undef
def ldRow : DataW Unit → List Value
  | .agg ds => ds.map numV
  | _ => []
def ldRows : DataW Unit → List Value
  | .agg ds => ds.flatMap ldRow
  | _ => []
noncomputable def laidWorld (os : Os) : World :=
  layAt 2 (List.toArray (ldRows Rows.laid_unicode_utf8_acceptRanges)) (layAt 1 (List.toArray (ldRow Rows.laid_unicode_utf8_first)) (World.holding Tryd.prog os ⟨#[], #[], []⟩))
theorem laid_met (os : Os) (args : Array Value) : laidMet Tryd.prog laidL ((laidWorld os).forCall (fun _ _ => 0) ⟨#[], args, []⟩).memory :=
  laidMet_of_run' 8 (by kernel_rfl) (by kernel_rfl)
theorem maxLen_cell {W : World} (h : W.ShapedOpen Tryd.prog) : ∃ m, W.cell? ⟨0, 0, none⟩ = some (.int .i64 m) :=
  Go.Proofs.cell_of_shapedOpen_int (zero := #[.int .i64 0]) (t := 3) h (of_decide_eq_true (by kernel_rfl)) (by kernel_rfl) rfl (by kernel_rfl) (by kernel_rfl) Tryd.underlying3
end Go.Proofs.YtmfaakimhgkedaaDoor
