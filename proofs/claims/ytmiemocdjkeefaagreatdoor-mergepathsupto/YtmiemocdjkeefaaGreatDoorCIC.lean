/-
  The way of a path.
  The way of a path: what the program answers.
  Those of a list that are so; whether all are so; the first one that is so.
  A row appended to a row of one's own.
  slices.Insert of one field, wherever it goes.
-/
import Derived.Test.YtmiemocdjkeefaaGreatDoorCAW
import Derived.Test.YtmiemocdjkeefaaGreatDoorCAQ
import Derived.Test.YtmiemocdjkeefaaGreatDoorCAF
import Derived.Test.YtmiemocdjkeefaaGreatDoorCTY
import Derived.Lib.AppendZerosOnto
import Derived.Lib.AppendZeros
import Derived.Test.YtmiemocdjkeefaaGreatDoorCTI
import Derived.Laws.CopyRow
import Derived.Laws.CopyOwn
import Derived.Lib.Overlaps
import Derived.Shelf.RegionOpenPlain
namespace Go.Proofs.YtmiemocdjkeefaaGreatDoor
open Go.RowKit
set_option maxRecDepth 1000000
set_option linter.unusedVariables false
set_option linter.unusedSimpArgs false
set_option maxHeartbeats 2000000
def isWyB (f : FT) : Bool := decide (f.lab = 1) && decide (f.kind = 17)
def wayM (l : List TV) : Nat → List FT → List Int → Option (List Int)
  | 0, _, _ => none
  | n + 1, fs, p => match fs.find? (nmP (ctN p)) with
    | none => none
    | some f => if ctG p = true then (if isWyB f = true then (wayM l n ((l[f.ref.toNat]?).elim [] (·.t.fs)) (ctR p)).map (f.num :: ·) else none) else some [f.num]
/-- What wayOf answers. -/
def WayA (w : World) (o : Option (List Int)) (e : Ending) (w' : World) : Prop := Below w.heap.size w w' ∧ match o with
  | none => e = .returned (.tuple #[.slice none 0 0, .bool false])
  | some r => ∃ a c, e = .returned (.tuple #[.slice a r.length c, .bool true]) ∧ w'.ownsRow w.heap.size 3 1 (.slice a r.length c) r.length (r.flatMap cI64)
theorem WayA.no {w w' : World} (h : Below w.heap.size w w') : WayA w none (.returned (.tuple #[.slice none 0 0, .bool false])) w' := ⟨h, rfl⟩
theorem WayA.yes {w w' : World} {r : List Int} {a : Option Addr} {c n : Nat} (hn : n = r.length) (h : Below w.heap.size w w') (ho : w'.ownsRow w.heap.size 3 1 (.slice a n c) r.length (r.flatMap cI64)) : WayA w (some r) (.returned (.tuple #[.slice a n c, .bool true])) w' := by
  subst hn
  exact ⟨h, a, c, rfl, ho⟩
/-- One more. -/
theorem appendWy (base : Nat) (v : Value) (l : List Int) (y : Int) (w : World) (h : w.ownsRow base 3 1 v l.length (l.flatMap cI64)) (hb : base ≤ w.heap.size) (hn : l.length ≤ 4000000) :
    ∃ a c w', Hid ((Builtin.append_ #[73, 73] 73 #[v, .slice (some ⟨w.heap.size, 0, none⟩) 1 1]).run Tryz.prog (w.alloc (.cells #[.int .i64 y] 3)) = .ok (.slice a (l.length + 1) c) w') ∧ Hid (w'.ownsRow base 3 1 (.slice a (l.length + 1) c) (l ++ [y]).length ((l ++ [y]).flatMap cI64)) ∧ Hid (Grow w w' v (.slice a (l.length + 1) c)) := by
  obtain ⟨v', w', h1, h2, h3⟩ := append_st 3 73 1 8 (.int .i64 0) Tryz.underlying73 Tryz.infoIn rfl (by decide) (by decide) base v l.length (l.flatMap cI64) w #[.int .i64 y] rfl (fun u hu => by simp at hu; subst hu; rfl) h hb hn
  obtain ⟨a, c, rfl⟩ := own_shape h2
  exact ⟨a, c, w', hid h1, hid (by rw [List.flatMap_append, List.length_append]; exact h2), hid h3⟩
theorem isWyT (w : World) (f : FT) : Calls Tryz.prog 40 #[.agg #[.string (strOfNums f.name), .int .i64 f.num, .int .i64 f.kind, .int .i64 f.ref, .int .i64 f.lab, .int .i64 f.one, .int .i64 f.key]] w fun e w' => e = .returned (.bool (isWyB f)) ∧ Below w.heap.size w w' := by
  have e : isWyB f = ((f.lab == 1) && (f.kind == 17)) := by
    unfold isWyB
    rw [Bool.eq_iff_iff]
    simp
  rw [e]
  clear e
  cases h1 : f.lab == 1 with
  | false =>
    go_enter Tryz.func40, Tryz.ntmps40
    go_wp2
    go_ret
    exact ⟨rfl, by exact blBy⟩
  | true =>
    cases h2 : f.kind == 17 with
    | false =>
      go_enter Tryz.func40, Tryz.ntmps40
      go_wp2
      go_ret
      exact ⟨rfl, by exact blBy⟩
    | true =>
      go_enter Tryz.func40, Tryz.ntmps40
      go_wp2
      go_ret
      exact ⟨rfl, by exact blBy⟩
def strAt (v : Value) : Nat := match v with
  | .string s => s.size
  | _ => 0
set_option maxHeartbeats 600000
theorem grow_blkW {w w' : World} {v v' : Value} {base e size n p : Nat} {fl : List Value} {t : TypeId} {cs : Array Value} (g : Grow w w' v v') (ho : w.ownsRow base e size v n fl) (hB : Blk w p t cs) (ht : t ≠ e) : Blk w' p t cs := (g.block p hB.lt (fun hk => by
    obtain ⟨_, _, cur, h3⟩ := own_type ho hk
    rw [show w.heap[p]? = _ from hB] at h3
    cases h3
    exact ht rfl)).trans hB
theorem own_othW {w : World} {base e size n q j : Nat} {v u : Value} {fl : List Value} (h : w.ownsRow base e size v n fl) {t : TypeId} {cs : Array Value} (hq : Blk w q t cs) (ht : t ≠ e) : (w.setCell ⟨q, j, none⟩ u).ownsRow base e size v n fl :=
  own_keep (f := (· ≠ q)) h (fun k hk e => by
    obtain ⟨_, _, cur, h3⟩ := own_type h hk
    rw [e, show w.heap[q]? = _ from hq] at h3
    cases h3
    exact ht rfl) (Keep.setCell _ _ _ (fun h => h rfl))
theorem Blk.set6 {w : World} {p : Nat} {t : TypeId} {x0 x1 x2 x3 x4 x5 a b c d e f : Value} (h : Blk w p t #[x0, x1, x2, x3, x4, x5]) : Blk ((((((w.setCell ⟨p, 0, none⟩ a).setCell ⟨p, 1, none⟩ b).setCell ⟨p, 2, none⟩ c).setCell ⟨p, 3, none⟩ d).setCell ⟨p, 4, none⟩ e).setCell ⟨p, 5, none⟩ f) p t #[a, b, c, d, e, f] := (((((h.set 0 a).set 1 b).set 2 c).set 3 d).set 4 e).set 5 f
theorem own_set6 {w : World} {p : Nat} {t : TypeId} {cs : Array Value} {a b c d e f v : Value} {base ty size n : Nat} {fl : List Value} (h : Blk w p t cs) (ho : w.ownsRow base ty size v n fl) (ht : t ≠ ty) : ((((((w.setCell ⟨p, 0, none⟩ a).setCell ⟨p, 1, none⟩ b).setCell ⟨p, 2, none⟩ c).setCell ⟨p, 3, none⟩ d).setCell ⟨p, 4, none⟩ e).setCell ⟨p, 5, none⟩ f).ownsRow base ty size v n fl := own_othW (own_othW (own_othW (own_othW (own_othW (own_othW ho h ht) (h.set 0 a) ht) ((h.set 0 a).set 1 b) ht) (((h.set 0 a).set 1 b).set 2 c) ht) ((((h.set 0 a).set 1 b).set 2 c).set 3 d) ht) (((((h.set 0 a).set 1 b).set 2 c).set 3 d).set 4 e) ht
theorem wayOfT (w : World) (l : List TV) (ta : Option Addr) (tc : Nat) (h : TbR w (.slice ta l.length tc) l) (hk : ∀ x ∈ l, OkV x) (hg : goodB l = true) (mx : Int) (hm0 : w.cell? ⟨0, 0, none⟩ = some (.int .i64 mx)) (x : TV) (hx : x ∈ l) (p0 : List Int) (hp : TxA p0) (hl : PLn p0) : Calls Tryz.prog 23 #[.slice ta l.length tc, .agg (cTV x).toArray, .string (strOfNums p0)] w (WayA w (wayM l (p0.length + 1) x.t.fs p0)) := by
  obtain ⟨_, _, e, hln⟩ := rowS_sl h.row
  clear e
  have l63 : (l.length : Int) ≤ 9223372036854775807 := by omega
  have HT := hid h
  have HK := hid hk
  have HG := hid hg
  have HM := hid hm0
  obtain ⟨R, eR⟩ : ∃ R, R = wayM l (p0.length + 1) x.t.fs p0 := ⟨_, rfl⟩
  rw [← eR]
  have HST : Hid (p0.length < p0.length + 1 ∧ ([] : List Int).length + ctD p0 ≤ 4000000 ∧ TxA p0 ∧ x ∈ l ∧ R = (wayM l (p0.length + 1) x.t.fs p0).map ([] ++ ·)) := hid ⟨by omega, by simpa using hl.2, hp, hx, by rw [eR]; simp⟩
  clear eR
  obtain ⟨a1, c1, a2, c2, a3, c3, a4, c4, e1, e2, e3, e4⟩ := shT_of (h.ty x hx)
  have ec : cTV x = [.string (strOfNums x.t.name), .bool x.t.enum, .slice a1 x.t.fs.length c1, .slice a2 x.t.os.length c2, .slice a3 x.t.ss.length c3, .slice a4 x.t.rs.length c4] := by unfold cTV; rw [e1, e2, e3, e4]
  have HBX : Hid (Blk (w.alloc (.cells (cTV x).toArray 63)) w.heap.size 63 (cTV x).toArray) := hid (Blk.new _ _ _)
  rw [ec] at HBX
  rw [ec]
  have HB0 : Hid (Below w.heap.size w (w.alloc (.cells #[.string (strOfNums x.t.name), .bool x.t.enum, .slice a1 x.t.fs.length c1, .slice a2 x.t.os.length c2, .slice a3 x.t.ss.length c3, .slice a4 x.t.rs.length c4] 63))) := hid (by exact blBy)
  have HSZ : Hid (w.heap.size + 1 ≤ (w.alloc (.cells #[.string (strOfNums x.t.name), .bool x.t.enum, .slice a1 x.t.fs.length c1, .slice a2 x.t.os.length c2, .slice a3 x.t.ss.length c3, .slice a4 x.t.rs.length c4] 63)).heap.size) := hid (by simp)
  clear h hk hg hm0 hx hp hl e1 e2 e3 e4
  go_enter Tryz.func23, Tryz.ntmps23
  go_wp2
  go_loopw [2, 8] (fun s2 s8 wr => ∃ (p acc : List Int) (n : Nat) (y : TV) (oa : Option Addr) (oc : Nat), s2 = .string (strOfNums p) ∧ s8 = .slice oa acc.length oc ∧ Hid (p.length < n ∧ acc.length + ctD p ≤ 4000000 ∧ TxA p ∧ y ∈ l ∧ R = (wayM l n y.t.fs p).map (acc ++ ·)) ∧ Hid (Blk wr w.heap.size 63 (cTV y).toArray) ∧ Hid (wr.ownsRow (w.heap.size + 1) 3 1 (.slice oa acc.length oc) acc.length (acc.flatMap cI64)) ∧ Hid (w.heap.size + 1 ≤ wr.heap.size) ∧ Hid (Below w.heap.size w wr)) (fun s2 s8 wr => strAt s2)
  case atStart => exact ⟨p0, [], p0.length + 1, x, none, 0, rfl, rfl, HST, hid (by rw [ec]; exact HBX.out), hid (World.ownsRow_nil _ _ _ _), HSZ, HB0⟩
  case round =>
    obtain ⟨p, acc, n, y, oa, oc, rfl, rfl, HP, BX, HO, HZ, hb⟩ := hrel
    clear HST HBX HB0 HSZ ec
    obtain ⟨n, rfl⟩ : ∃ k, n = k + 1 := ⟨n - 1, by have := HP.out.1; omega⟩
    obtain ⟨a1, c1, a2, c2, a3, c3, a4, c4, e1, e2, e3, e4⟩ := shT_of (HT.out.ty y HP.out.2.2.2.1)
    have ec : cTV y = [.string (strOfNums y.t.name), .bool y.t.enum, .slice a1 y.t.fs.length c1, .slice a2 y.t.os.length c2, .slice a3 y.t.ss.length c3, .slice a4 y.t.rs.length c4] := by unfold cTV; rw [e1, e2, e3, e4]
    have HFS := hid fun W (hW : Below w.heap.size w W) => (show RowS W AnyZ 7 (.slice a1 y.t.fs.length c1) y.t.fs.length (y.t.fs.flatMap cFT) by rw [← e1]; exact ((HT.out.ty y HP.out.2.2.2.1).kept hW).f)
    rw [ec] at BX
    clear e1 e2 e3 e4 ec
    have xb := BX.out.cellF
    have zb := BX.out.lt
    go_wp2_with fail
    refine (cutT p mx wr HP.out.2.2.1.2 HP.out.2.2.1.1 (cell_below HM.out hb.out)).mono ?_
    rintro e w1 ⟨rfl, hb1⟩
    have BX1 := hid (BX.out.kept hb1)
    have HO1 := hid (own_kept HO.out hb1)
    have HZ1 : Hid (w.heap.size + 1 ≤ w1.heap.size) := hid (by have := HZ.out; have := hb1.size; omega)
    have hbb : Hid (Below w.heap.size w w1) := hid (bl_then hb.out hb1)
    clear hb1 xb zb BX HO HZ hb
    have xb := BX1.out.cellF
    have zb := BX1.out.lt
    have HNM := hid (namedF w1 y.t.fs a1 c1 (HFS.out _ hbb.out) (fun f hf => (HK.out y HP.out.2.2.2.1).ok.fs f hf) (ctN p) (TxA.ofMem HP.out.2.2.1 (ctN_mem p) (ctN_len p)))
    have HWY : Hid (R = ((match y.t.fs.find? (nmP (ctN p)) with
      | none => none
      | some f => if ctG p = true then (if isWyB f = true then (wayM l n ((l[f.ref.toNat]?).elim [] (·.t.fs)) (ctR p)).map (f.num :: ·) else none) else some [f.num]) : Option (List Int)).map (acc ++ ·)) := hid (by
      rw [HP.out.2.2.2.2]
      rfl)
    have HFM : Hid (∀ f, y.t.fs.find? (nmP (ctN p)) = some f → f ∈ y.t.fs) := hid (fun f hf => List.mem_of_find?_eq_some hf)
    generalize y.t.fs.find? (nmP (ctN p)) = q at *
    go_wp2_with fail
    refine HNM.out.mono ?_
    rintro e w2 ⟨rfl, hb2⟩
    replace BX1 := hid (BX1.out.kept hb2)
    replace HO1 := hid (own_kept HO1.out hb2)
    replace HZ1 : Hid (w.heap.size + 1 ≤ w2.heap.size) := hid (by have := HZ1.out; have := hb2.size; omega)
    replace hbb : Hid (Below w.heap.size w w2) := hid (bl_then hbb.out hb2)
    clear hb2 xb zb HNM HFS
    have xb := BX1.out.cellF
    have zb := BX1.out.lt
    cases q with
    | none =>
      obtain rfl : R = none := HWY.out
      unfold tFN
      go_wp2
      exact bodyPost_ret (v := .tuple #[.slice none 0 0, .bool false]) (by simp [results, Tryz.results23, go_sem]) rfl (WayA.no (by have := hbb.out; exact blBy))
    | some f =>
      have HFF := hid (HFM.out f rfl)
      obtain ⟨k, ek⟩ : ∃ k : Nat, f.ref = (k : Int) := ⟨f.ref.toNat, by have := good_refs HG.out HP.out.2.2.2.1 HFF.out; omega⟩
      have hkl : k < l.length := by have := good_refs HG.out HP.out.2.2.2.1 HFF.out; omega
      obtain ⟨f1, f2, f3, f4, f5, f6, f7⟩ := f
      dsimp only at ek
      subst ek
      clear HFM HFF
      unfold tFN
      dsimp only at HWY ⊢
      have HO2 := hid (own_kept HO1.out (below_alloc (w := w2) (.cells #[.string (strOfNums f1), .int .i64 f2, .int .i64 f3, .int .i64 (k : Int), .int .i64 f5, .int .i64 f6, .int .i64 f7] 65)))
      have BX2 := hid (BX1.out.kept (below_alloc (w := w2) (.cells #[.string (strOfNums f1), .int .i64 f2, .int .i64 f3, .int .i64 (k : Int), .int .i64 f5, .int .i64 f6, .int .i64 f7] 65)))
      have BF2 : Hid (Blk (w2.alloc (.cells #[.string (strOfNums f1), .int .i64 f2, .int .i64 f3, .int .i64 (k : Int), .int .i64 f5, .int .i64 f6, .int .i64 f7] 65)) w2.heap.size 65 #[.string (strOfNums f1), .int .i64 f2, .int .i64 f3, .int .i64 (k : Int), .int .i64 f5, .int .i64 f6, .int .i64 f7]) := hid (Blk.new _ _ _)
      have HZ2 : Hid (w.heap.size + 1 ≤ (w2.alloc (.cells #[.string (strOfNums f1), .int .i64 f2, .int .i64 f3, .int .i64 (k : Int), .int .i64 f5, .int .i64 f6, .int .i64 f7] 65)).heap.size) := hid (by have := HZ1.out; simp; omega)
      have hb3 : Hid (Below w.heap.size w (w2.alloc (.cells #[.string (strOfNums f1), .int .i64 f2, .int .i64 f3, .int .i64 (k : Int), .int .i64 f5, .int .i64 f6, .int .i64 f7] 65))) := hid (bl_alloc hbb.out _)
      cases hG : ctG p with
      | false =>
        rw [hG] at HWY
        obtain rfl : R = some (acc ++ [f2]) := HWY.out
        obtain ⟨la, lc, x1, HRUN, HV2, HG1⟩ := appendWy (w.heap.size + 1) _ acc f2 _ HO2.out HZ2.out (by have := HP.out.2.1; omega)
        have HB1 : Hid (Below w.heap.size w x1) := hid (hb3.out.trans (grow_bel HG1.out HO2.out (by omega) hb3.out.size))
        rw [show (w2.alloc (.cells #[.string (strOfNums f1), .int .i64 f2, .int .i64 f3, .int .i64 (k : Int), .int .i64 f5, .int .i64 f6, .int .i64 f7] 65)).heap.size = w2.heap.size + 1 from by simp] at HRUN
        go_wp2_with (first | (at_builtin; refine wpList_append_ran rfl (.tmp 37) (.tmp 40) 73 73 rfl rfl (.slice oa acc.length oc) (.slice (some ⟨w2.heap.size + 1, 0, none⟩) 1 1) (.slice la (acc.length + 1) lc) x1 rfl rfl HRUN.out ?_))
        exact bodyPost_ret (v := .tuple #[.slice la (acc.length + 1) lc, .bool true]) (by simp [results, Tryz.results23, go_sem]) rfl (WayA.yes (by simp) HB1.out (own_mono HV2.out (by omega)))
      | true =>
        have HWC := hid (fun W => isWyT W ⟨f1, f2, f3, (k : Int), f5, f6, f7⟩)
        dsimp only at HWC
        rw [hG] at HWY
        simp only [if_true] at HWY
        cases hw : isWyB ⟨f1, f2, f3, (k : Int), f5, f6, f7⟩ with
        | false =>
          rw [hw] at HWC HWY
          obtain rfl : R = none := HWY.out
          go_wp2_with fail
          refine (HWC.out _).mono ?_
          rintro e w3 ⟨rfl, hbx⟩
          replace hb3 := hid (bl_then hb3.out hbx)
          clear hbx
          go_wp2
          exact bodyPost_ret (v := .tuple #[.slice none 0 0, .bool false]) (by simp [results, Tryz.results23, go_sem]) rfl (WayA.no (by have := hb3.out; exact blBy))
        | true =>
          rw [hw] at HWC HWY
          simp only [if_true] at HWY
          have kk : (k : Int) < (l.length : Int) := by omega
          rw [Int.toNat_natCast, List.getElem?_eq_getElem hkl] at HWY
          have HPN : Hid ((ctR p).length < n ∧ (acc ++ [f2]).length + ctD (ctR p) ≤ 4000000 ∧ TxA (ctR p) ∧ l[k] ∈ l ∧ R = (wayM l n l[k].t.fs (ctR p)).map ((acc ++ [f2]) ++ ·)) := hid ⟨by have := ctR_lt p hG; have := HP.out.1; omega, by have := ctD_R p hG; have := HP.out.2.1; simp; omega, TxA.ofMem HP.out.2.2.1 (ctR_mem p) (ctR_len p), List.getElem_mem hkl, by
            rw [HWY.out]
            show Option.map _ (Option.map _ _) = _
            rw [Option.map_map]
            congr 1
            funext z
            simp⟩
          have HLT : Hid ((strOfNums (ctR p)).size < (strOfNums p).size) := hid (by rw [strOfNums_size, strOfNums_size]; exact ctR_lt p hG)
          clear HWY hw hG
          replace hkl := hid hkl
          go_wp2_with fail
          refine (HWC.out _).mono ?_
          rintro e w3 ⟨rfl, hbx⟩
          have BX3 := hid (BX2.out.kept hbx)
          have BF3 := hid (BF2.out.kept hbx)
          have HO3 := hid (own_kept HO2.out hbx)
          have HZ3 : Hid (w.heap.size + 1 ≤ w3.heap.size) := hid (by have := HZ2.out; have := hbx.size; omega)
          have hb4 : Hid (Below w.heap.size w w3) := hid (bl_then hb3.out hbx)
          obtain ⟨la, lc, x1, HRUN, HV2, HG1⟩ := appendWy (w.heap.size + 1) _ acc f2 w3 HO3.out HZ3.out (by have := HP.out.2.1; omega)
          have BX4 := hid (grow_blkW HG1.out HO3.out BX3.out (by decide))
          have BF4 := hid (grow_blkW HG1.out HO3.out BF3.out (by decide))
          have HZ4 : Hid (w.heap.size + 1 ≤ x1.heap.size) := hid (by have := HZ3.out; have := HG1.out.size; omega)
          have HB1 : Hid (Below w.heap.size w x1) := hid (hb4.out.trans (grow_bel HG1.out HO3.out (by omega) hb4.out.size))
          obtain ⟨tb, tof, eta, hbl, d0, d1, d2, d3, d4, d5⟩ := row6 (HT.out.kept HB1.out).row hkl.out
          obtain ⟨a1', c1', a2', c2', a3', c3', a4', c4', e1, e2, e3, e4⟩ := shT_of (HT.out.ty _ (List.getElem_mem hkl.out))
          have ec : cTV (l[k]'hkl.out) = [.string (strOfNums (l[k]'hkl.out).t.name), .bool (l[k]'hkl.out).t.enum, .slice a1' (l[k]'hkl.out).t.fs.length c1', .slice a2' (l[k]'hkl.out).t.os.length c2', .slice a3' (l[k]'hkl.out).t.ss.length c3', .slice a4' (l[k]'hkl.out).t.rs.length c4'] := by unfold cTV; rw [e1, e2, e3, e4]
          have EC := hid ec
          rw [e1] at d2
          rw [e2] at d3
          rw [e3] at d4
          rw [e4] at d5
          subst eta
          clear hbx e1 e2 e3 e4 ec xb zb BX1 HO1 HZ1 hbb HO2 BX2 BF2 HZ2 hb3 HWC
          have HX6 := hid (fun a b c d e f => BX4.out.set6 (a := a) (b := b) (c := c) (d := d) (e := e) (f := f))
          generalize l[k]'hkl.out = z at *
          have xf := BF3.out.cellF
          have zf := BF3.out.lt
          have xf4 := BF4.out.cellF
          have zf4 := BF4.out.lt
          have xx := BX4.out.cellF
          have yx := BX4.out.frz
          have zx := BX4.out.lt
          go_wp2_with (first | (at_builtin; refine wpList_append_ran rfl (.tmp 37) (.tmp 40) 73 73 rfl rfl (.slice oa acc.length oc) (.slice (some ⟨w3.heap.size, 0, none⟩) 1 1) (.slice la (acc.length + 1) lc) x1 rfl rfl HRUN.out ?_))
          refine ⟨⟨ctR p, acc ++ [f2], n, z, la, lc, rfl, by simp, HPN, hid (by rw [EC.out]; exact HX6.out _ _ _ _ _ _), hid (own_set6 BX4.out (by have := HV2.out; rw [List.length_append] at *; exact this) (by decide)), hid (by have := HZ4.out; simpa using this), hid (by have := HB1.out; exact blBy)⟩, ?_⟩
          show strAt (.string (strOfNums (ctR p))) < strAt (.string (strOfNums p))
          exact HLT.out
set_option maxHeartbeats 1000000
/-- Old memory, but for v's own block. -/
def ZofA (w : World) (Y : Nat → Prop) (v : Value) (b : Nat) : Prop := Y b ∧ b < w.heap.size ∧ v.ownBlock ≠ some b
/-- A row of one's own, each struct as E says, in other memory. -/
def OwnA {α : Type} (w : World) (base : Nat) (Y : Nat → Prop) (t : TypeId) (k : Nat) (E : World → (Nat → Prop) → List Value → α → Prop) (v : Value) (xs : List α) : Prop :=
  ∃ ts : List (Tup k), w.ownsRow base t k v xs.length (ts.flatMap Subtype.val) ∧ ts.length = xs.length ∧ ∀ (i : Nat) (t : Tup k) (x : α), ts[i]? = some t → xs[i]? = some x → E w (ZofA w Y v) t.1 x
theorem OwnA.nil {α : Type} (w : World) (base : Nat) (Y : Nat → Prop) (t : TypeId) (k : Nat) (E : World → (Nat → Prop) → List Value → α → Prop) : OwnA w base Y t k E (.slice none 0 0) [] := ⟨[], World.ownsRow_nil _ _ _ _, rfl, fun i t x ht => by simp at ht⟩
theorem OwnA.shape {α : Type} {w : World} {base : Nat} {Y : Nat → Prop} {t : TypeId} {k : Nat} {E : World → (Nat → Prop) → List Value → α → Prop} {v : Value} {xs : List α} (h : OwnA w base Y t k E v xs) : ∃ a c, v = .slice a xs.length c := by
  obtain ⟨ts, h1, _⟩ := h
  exact own_shape h1
theorem OwnA.own {α : Type} {w : World} {base : Nat} {Y : Nat → Prop} {t : TypeId} {k : Nat} {E : World → (Nat → Prop) → List Value → α → Prop} {v : Value} {xs : List α} (h : OwnA w base Y t k E v xs) {b : Nat} (hb : v.ownBlock = some b) : base ≤ b ∧ b < w.heap.size := by
  obtain ⟨ts, h1, _⟩ := h
  have := own_type h1 hb
  exact ⟨this.1, this.2.1⟩
theorem OwnA.kept {α : Type} {w w' : World} {base : Nat} {Y : Nat → Prop} {t : TypeId} {k : Nat} {E : World → (Nat → Prop) → List Value → α → Prop} (F : Fam k E) {v : Value} {xs : List α} (h : OwnA w base Y t k E v xs) (hb : Below w.heap.size w w') : OwnA w' base Y t k E v xs := by
  obtain ⟨ts, h1, h2, h3⟩ := h
  exact ⟨ts, own_kept h1 hb, h2, fun i t x ht hx => F.go (h3 i t x ht hx) (keepT hb) (fun _ _ => trivial) (fun b hz => ⟨hz.1, Nat.lt_of_lt_of_le hz.2.1 hb.size, hz.2.2⟩)⟩
theorem OwnA.row {α : Type} {w : World} {base : Nat} {Y : Nat → Prop} {t : TypeId} {k : Nat} {E : World → (Nat → Prop) → List Value → α → Prop} (F : Fam k E) {v : Value} {xs : List α} (h : OwnA w base Y t k E v xs) (hn : xs.length ≤ 4000000) : RowM w (fun b => Y b ∨ base ≤ b) k (E w (fun b => Y b ∨ base ≤ b)) v xs := by
  obtain ⟨ts, h1, h2, h3⟩ := h
  exact ⟨ts, own_row h1 (fun b hb => Or.inr (own_type h1 hb).1), h2, hn, fun i t x ht hx => F.go (h3 i t x ht hx) (Keep.refl (fun _ => True) w) (fun _ _ => trivial) (fun b hz => Or.inl hz.1)⟩
/-- One struct more. -/
theorem OwnA.push {α : Type} {k : Nat} {E : World → (Nat → Prop) → List Value → α → Prop} (F : Fam k E) (t ts : TypeId) (bytes : Nat) (z : Value) (hts : Tryz.prog.underlying ts = some (.slice t)) (hinfo : (Tryz.prog.info? t).map (fun i => (i.zero, i.size, i.bytes)) = some (some z, k, bytes)) (hzs : z.cells.size = k) (h0 : 0 < k) (hby : bytes ≤ 400)
    {base : Nat} {Y : Nat → Prop} {v : Value} {xs : List α} {w : World} {cs : List Value} {x : α} (h : OwnA w base Y t k E v xs) (hx : E w (ZofA w Y v) cs x) (hb : base ≤ w.heap.size) (hn : xs.length ≤ 4000000) :
    ∃ a c w', Hid ((Builtin.append_ #[ts, ts] ts #[v, .slice (some ⟨w.heap.size, 0, none⟩) 1 1]).run Tryz.prog (w.alloc (.cells cs.toArray t)) = .ok (.slice a (xs.length + 1) c) w') ∧ Hid (OwnA w' base Y t k E (.slice a (xs.length + 1) c) (xs ++ [x])) ∧ Hid (Grow w w' v (.slice a (xs.length + 1) c)) := by
  obtain ⟨us, h1, h2, h3⟩ := h
  obtain ⟨v', w', r1, r2, r3⟩ := append_st t ts k bytes z hts hinfo hzs h0 hby base v xs.length (us.flatMap Subtype.val) w cs.toArray (by simp [F.len hx]) (by simpa using F.one hx) h1 hb hn
  obtain ⟨a, c, rfl⟩ := own_shape r2
  refine ⟨a, c, w', hid r1, hid ⟨us ++ [⟨cs, F.len hx⟩], ?_, by simp [h2], ?_⟩, hid r3⟩
  · rw [List.length_append, List.flatMap_append]
    simpa using r2
  · have hz : ∀ b, ZofA w Y v b → ZofA w' Y (.slice a (xs.length + 1) c) b := fun b hzb => by
      refine ⟨hzb.1, Nat.lt_of_lt_of_le hzb.2.1 r3.size, ?_⟩
      intro e
      rcases r3.own with q | q
      · rw [q] at e; exact hzb.2.2 e
      · have := q b e; have := hzb.2.1; omega
    have hk : Keep (fun b => v.ownBlock ≠ some b) w w' := Keep.ofGrow r3 (fun _ hk => hk)
    intro i u y hu hy
    by_cases hi : i < us.length
    · rw [List.getElem?_append_left hi] at hu
      rw [List.getElem?_append_left (by omega)] at hy
      exact F.go (h3 i u y hu hy) hk (fun b hz => hz.2.2) hz
    · have ei : i = us.length := by
        have := (List.getElem?_eq_some_iff.1 hu).1
        simp at this
        omega
      subst ei
      rw [List.getElem?_append_right (Nat.le_refl _), Nat.sub_self] at hu
      rw [h2, List.getElem?_append_right (Nat.le_refl _), Nat.sub_self] at hy
      simp at hu hy
      subst hu hy
      exact F.go hx hk (fun b hz => hz.2.2) hz
theorem OwnA.bel {α : Type} {w w' : World} {base : Nat} {Y : Nat → Prop} {t : TypeId} {k : Nat} {E : World → (Nat → Prop) → List Value → α → Prop} {v v' : Value} {xs : List α} (h : OwnA w base Y t k E v xs) (g : Grow w w' v v') {B : Nat} (hB : B ≤ base) (hs : B ≤ w.heap.size) : Below B w w' := g.below hs (fun b hb => Nat.le_trans hB (h.own hb).1)
theorem zofA_old {α : Type} {w w1 w2 : World} {Z : Nat → Prop} {t : TypeId} {k : Nat} {E : World → (Nat → Prop) → List Value → α → Prop} (F : Fam k E) {v : Value} {xs : List α} (h : OwnA w1 w.heap.size Z t k E v xs) {cs : List Value} {x : α} (hx : E w Z cs x) (hb : Below w.heap.size w w2) : E w2 (ZofA w2 Z v) cs x :=
  F.go (F.old hx) (keepT hb) (fun _ _ => trivial) (fun b hz => ⟨hz.1, Nat.lt_of_lt_of_le hz.2 hb.size, fun e => by have := (h.own e).1; have := hz.2; omega⟩)
theorem fl_le {α : Type} {xs : List α} {P : α → Bool} (h : xs.length ≤ 4000000) : (xs.filter P).length ≤ 4000000 := Nat.le_trans (List.length_filter_le _ _) h
theorem RowM.el {α : Type} {w : World} {Z : Nat → Prop} {k : Nat} {E : List Value → α → Prop} {v : Value} {xs : List α} (h : RowM w Z k E v xs) (hk : 0 < k) {i : Nat} (hi : i < xs.length) {cs : List Value} (hl : cs.length = k) {a : Option Addr} {n c b o : Nat} (ev : v = .slice a n c) (ea : a = some ⟨b, o, none⟩) (hc : ∀ j u, cs[j]? = some u → w.cell? ⟨b, o + i * k + j, none⟩ = some u) : E cs xs[i] := by
  subst ev
  obtain ⟨b', o', cs', e, -, -, hl', he, hc'⟩ := RowM.at h hk hi
  rw [ea] at e
  cases e
  have : cs = cs' := by
    apply List.ext_getElem?
    intro j
    by_cases hj : j < k
    · have e1 := hc j _ (List.getElem?_eq_getElem (show j < cs.length by omega))
      have e2 := hc' j _ (List.getElem?_eq_getElem (show j < cs'.length by omega))
      rw [e1] at e2
      rw [List.getElem?_eq_getElem (show j < cs.length by omega), List.getElem?_eq_getElem (show j < cs'.length by omega)]
      exact e2
    · rw [List.getElem?_eq_none (by omega), List.getElem?_eq_none (by omega)]
  rw [this]
  exact he
theorem everyF (w : World) (Z : Nat → Prop) (d : Nat) (xs : List (CF CM)) (a : Option Addr) (c : Nat) (h : FlsR w Z d (.slice a xs.length c) xs) (fn : FuncId) (caps : Array Value) (hcf : ∀ (args : Array Value) (W : World), (callFunc fn args).run Tryz.prog W = .ok (.enter fn args) W) (P : CF CM → Bool)
    (hf : ∀ (W : World), Below w.heap.size w W → ∀ (cs : List Value) (x : CF CM), x ∈ xs → FmF d W Z cs x → Calls Tryz.prog fn (#[.agg cs.toArray] ++ caps) W fun e w' => e = .returned (.bool (P x)) ∧ Below W.heap.size W w') : Calls Tryz.prog 115 #[.slice a xs.length c, .func (.func fn) #[] caps] w fun e w' => e = .returned (.bool (xs.all P)) ∧ Below w.heap.size w w' := by
  obtain ⟨_, _, e1, l1⟩ := RowM.sl h
  clear e1
  have m1 : (xs.length : Int) ≤ 9223372036854775807 := by omega
  have H1 := hid h
  have HF := hid hf
  clear h hf
  go_enter Tryz.func115, Tryz.ntmps115
  go_wp2
  go_loopw [9] (fun s9 wr => ∃ j : Nat, s9 = .int .i64 j ∧ j ≤ xs.length ∧ Hid (xs.all P = (xs.drop j).all P) ∧ Hid (Below w.heap.size w wr)) (fun s9 wr => xs.length - numAt wr s9)
  case atStart => exact ⟨0, rfl, by omega, hid rfl, hid (Below.refl _ _)⟩
  case round =>
    obtain ⟨j, rfl, hj, HA, hb⟩ := hrel
    by_cases hlt : j < xs.length
    · have k2 : (j : Int) < (xs.length : Int) := by omega
      obtain ⟨b1, o1, ka1, kc1, va1, vc1, rfl, -, hb1, c0, c1, c2, he⟩ := fls_at (H1.out.kept hb.out) hlt
      have HE := hid he
      have HD : Hid ((xs.drop j).all P = (P xs[j] && (xs.drop (j + 1)).all P)) := hid (by rw [List.drop_eq_getElem_cons hlt, List.all_cons])
      have HME := hid (List.getElem_mem hlt)
      clear he
      generalize xs[j] = x at *
      go_wp2_with fail
      refine (HF.out _ (by have := hb.out; exact blBy) [.int .i64 x.num, .slice ka1 x.ks.length kc1, .slice va1 x.vs.length vc1] x HME.out (Fam.go (famF d) HE.out (keepT (below_alloc _)) (fun _ _ => trivial) (fun _ h => h))).mono ?_
      rintro e w1 ⟨rfl, hbx⟩
      have hbw : Hid (Below w.heap.size w w1) := hid (bl_then (by have := hb.out; exact blBy) hbx)
      clear hbx c0 c1 c2
      cases hq : P x with
      | false =>
        have HX : Hid (xs.all P = false) := hid (by rw [HA.out, HD.out, hq]; rfl)
        go_wp2
        go_ret
        exact ⟨ret_bool HX.out.symm, hbw.out⟩
      | true =>
        have HX : Hid (xs.all P = (xs.drop (j + 1)).all P) := hid (by rw [HA.out, HD.out, hq]; rfl)
        go_wp2
        exact ⟨⟨j + 1, by simp, by omega, HX, hbw⟩, by simp [numAt]; omega⟩
    · have k2 : ¬ (j : Int) < (xs.length : Int) := by omega
      have HX : Hid (xs.all P = true) := hid (by rw [HA.out, List.drop_of_length_le (by omega)]; rfl)
      go_wp2
      go_ret
      exact ⟨ret_bool HX.out.symm, hb.out⟩
theorem everyE (w : World) (Z : Nat → Prop) (xs : List (CE)) (a : Option Addr) (c : Nat) (h : EnsR w Z (.slice a xs.length c) xs) (fn : FuncId) (caps : Array Value) (hcf : ∀ (args : Array Value) (W : World), (callFunc fn args).run Tryz.prog W = .ok (.enter fn args) W) (P : CE → Bool)
    (hf : ∀ (W : World), Below w.heap.size w W → ∀ (cs : List Value) (x : CE), x ∈ xs → FmE W Z cs x → Calls Tryz.prog fn (#[.agg cs.toArray] ++ caps) W fun e w' => e = .returned (.bool (P x)) ∧ Below W.heap.size W w') : Calls Tryz.prog 117 #[.slice a xs.length c, .func (.func fn) #[] caps] w fun e w' => e = .returned (.bool (xs.all P)) ∧ Below w.heap.size w w' := by
  obtain ⟨_, _, e1, l1⟩ := RowM.sl h
  clear e1
  have m1 : (xs.length : Int) ≤ 9223372036854775807 := by omega
  have H1 := hid h
  have HF := hid hf
  clear h hf
  go_enter Tryz.func117, Tryz.ntmps117
  go_wp2
  go_loopw [9] (fun s9 wr => ∃ j : Nat, s9 = .int .i64 j ∧ j ≤ xs.length ∧ Hid (xs.all P = (xs.drop j).all P) ∧ Hid (Below w.heap.size w wr)) (fun s9 wr => xs.length - numAt wr s9)
  case atStart => exact ⟨0, rfl, by omega, hid rfl, hid (Below.refl _ _)⟩
  case round =>
    obtain ⟨j, rfl, hj, HA, hb⟩ := hrel
    by_cases hlt : j < xs.length
    · have k2 : (j : Int) < (xs.length : Int) := by omega
      obtain ⟨b1, o1, ka1, kc1, rfl, -, hb1, c0, c1, c2, c3, he⟩ := ens_at (H1.out.kept hb.out) hlt
      have HE := hid he
      have HD : Hid ((xs.drop j).all P = (P xs[j] && (xs.drop (j + 1)).all P)) := hid (by rw [List.drop_eq_getElem_cons hlt, List.all_cons])
      have HME := hid (List.getElem_mem hlt)
      clear he
      generalize xs[j] = x at *
      go_wp2_with fail
      refine (HF.out _ (by have := hb.out; exact blBy) [.int .i64 x.num, .int .i64 x.kind, .int .u64 x.n, .slice ka1 x.b.length kc1] x HME.out (Fam.go (famE) HE.out (keepT (below_alloc _)) (fun _ _ => trivial) (fun _ h => h))).mono ?_
      rintro e w1 ⟨rfl, hbx⟩
      have hbw : Hid (Below w.heap.size w w1) := hid (bl_then (by have := hb.out; exact blBy) hbx)
      clear hbx c0 c1 c2 c3
      cases hq : P x with
      | false =>
        have HX : Hid (xs.all P = false) := hid (by rw [HA.out, HD.out, hq]; rfl)
        go_wp2
        go_ret
        exact ⟨ret_bool HX.out.symm, hbw.out⟩
      | true =>
        have HX : Hid (xs.all P = (xs.drop (j + 1)).all P) := hid (by rw [HA.out, HD.out, hq]; rfl)
        go_wp2
        exact ⟨⟨j + 1, by simp, by omega, HX, hbw⟩, by simp [numAt]; omega⟩
    · have k2 : ¬ (j : Int) < (xs.length : Int) := by omega
      have HX : Hid (xs.all P = true) := hid (by rw [HA.out, List.drop_of_length_le (by omega)]; rfl)
      go_wp2
      go_ret
      exact ⟨ret_bool HX.out.symm, hb.out⟩
theorem everyV (w : World) (Z : Nat → Prop) (d : Nat) (xs : List (CV CM)) (a : Option Addr) (c : Nat) (h : VlsR w Z d (.slice a xs.length c) xs) (fn : FuncId) (caps : Array Value) (hcf : ∀ (args : Array Value) (W : World), (callFunc fn args).run Tryz.prog W = .ok (.enter fn args) W) (P : CV CM → Bool)
    (hf : ∀ (W : World), Below w.heap.size w W → ∀ (cs : List Value) (x : CV CM), x ∈ xs → FmV d W Z cs x → Calls Tryz.prog fn (#[.agg cs.toArray] ++ caps) W fun e w' => e = .returned (.bool (P x)) ∧ Below W.heap.size W w') : Calls Tryz.prog 154 #[.slice a xs.length c, .func (.func fn) #[] caps] w fun e w' => e = .returned (.bool (xs.all P)) ∧ Below w.heap.size w w' := by
  obtain ⟨_, _, e1, l1⟩ := RowM.sl h
  clear e1
  have m1 : (xs.length : Int) ≤ 9223372036854775807 := by omega
  have H1 := hid h
  have HF := hid hf
  clear h hf
  go_enter Tryz.func154, Tryz.ntmps154
  go_wp2
  go_loopw [9] (fun s9 wr => ∃ j : Nat, s9 = .int .i64 j ∧ j ≤ xs.length ∧ Hid (xs.all P = (xs.drop j).all P) ∧ Hid (Below w.heap.size w wr)) (fun s9 wr => xs.length - numAt wr s9)
  case atStart => exact ⟨0, rfl, by omega, hid rfl, hid (Below.refl _ _)⟩
  case round =>
    obtain ⟨j, rfl, hj, HA, hb⟩ := hrel
    by_cases hlt : j < xs.length
    · have k2 : (j : Int) < (xs.length : Int) := by omega
      obtain ⟨b1, o1, ka1, kc1, va1, vc1, rfl, -, hb1, c0, c1, c2, he⟩ := vls_at (H1.out.kept hb.out) hlt
      have HE := hid he
      have HD : Hid ((xs.drop j).all P = (P xs[j] && (xs.drop (j + 1)).all P)) := hid (by rw [List.drop_eq_getElem_cons hlt, List.all_cons])
      have HME := hid (List.getElem_mem hlt)
      clear he
      generalize xs[j] = x at *
      go_wp2_with fail
      refine (HF.out _ (by have := hb.out; exact blBy) [.int .u64 x.n, .slice ka1 x.b.length kc1, .slice va1 x.ms.length vc1] x HME.out (Fam.go (famV d) HE.out (keepT (below_alloc _)) (fun _ _ => trivial) (fun _ h => h))).mono ?_
      rintro e w1 ⟨rfl, hbx⟩
      have hbw : Hid (Below w.heap.size w w1) := hid (bl_then (by have := hb.out; exact blBy) hbx)
      clear hbx c0 c1 c2
      cases hq : P x with
      | false =>
        have HX : Hid (xs.all P = false) := hid (by rw [HA.out, HD.out, hq]; rfl)
        go_wp2
        go_ret
        exact ⟨ret_bool HX.out.symm, hbw.out⟩
      | true =>
        have HX : Hid (xs.all P = (xs.drop (j + 1)).all P) := hid (by rw [HA.out, HD.out, hq]; rfl)
        go_wp2
        exact ⟨⟨j + 1, by simp, by omega, HX, hbw⟩, by simp [numAt]; omega⟩
    · have k2 : ¬ (j : Int) < (xs.length : Int) := by omega
      have HX : Hid (xs.all P = true) := hid (by rw [HA.out, List.drop_of_length_le (by omega)]; rfl)
      go_wp2
      go_ret
      exact ⟨ret_bool HX.out.symm, hb.out⟩
theorem OwnA.app {α : Type} {k : Nat} {E : World → (Nat → Prop) → List Value → α → Prop} (F : Fam k E) (t ts : TypeId) (bytes : Nat) (z : Value) (hts : Tryz.prog.underlying ts = some (.slice t)) (hinfo : (Tryz.prog.info? t).map (fun i => (i.zero, i.size, i.bytes)) = some (some z, k, bytes)) (hzs : z.cells.size = k) (h0 : 0 < k) (hby : bytes ≤ 400)
    {base : Nat} {Y : Nat → Prop} {v : Value} {xs ys : List α} {w : World} {a : Option Addr} {c : Nat} (h : OwnA w base Y t k E v xs) (hy : RowM w (ZofA w Y v) k (E w (ZofA w Y v)) (.slice a ys.length c) ys) (hb : base ≤ w.heap.size) (hn : xs.length + ys.length ≤ 4000000) :
    ∃ a' c' w', Hid ((Builtin.append_ #[ts, ts] ts #[v, .slice a ys.length c]).run Tryz.prog w = .ok (.slice a' (xs.length + ys.length) c') w') ∧ Hid (OwnA w' base Y t k E (.slice a' (xs.length + ys.length) c') (xs ++ ys)) ∧ Hid (Grow w w' v (.slice a' (xs.length + ys.length) c')) := by
  obtain ⟨us, h1, h2, h3⟩ := h
  obtain ⟨ts2, ⟨a2, c2, e, hv⟩, g2, -, g3⟩ := hy
  cases e
  obtain ⟨i0, hi, hz0, hz1, hz2⟩ := info_parts hinfo
  have hone : ∀ u ∈ ts2.flatMap Subtype.val, u.oneCell' = true := by
    intro u hu
    obtain ⟨tt, ht, hut⟩ := List.mem_flatMap.1 hu
    obtain ⟨j, hj, rfl⟩ := List.mem_iff_getElem.1 ht
    exact F.one (g3 j _ _ (List.getElem?_eq_getElem hj) (List.getElem?_eq_getElem (by omega))) u hut
  have key : ∀ (ad : Addr), a = some ad → (∀ j u, (ts2.flatMap Subtype.val)[j]? = some u → w.cell? (ad.add j) = some u) → ∃ a' c' w', Hid ((Builtin.append_ #[ts, ts] ts #[v, .slice a ys.length c]).run Tryz.prog w = .ok (.slice a' (xs.length + ys.length) c') w') ∧ Hid (OwnA w' base Y t k E (.slice a' (xs.length + ys.length) c') (xs ++ ys)) ∧ Hid (Grow w w' v (.slice a' (xs.length + ys.length) c')) := by
    intro ad ea hc
    subst ea
    obtain ⟨v', w', r1, r2, r3⟩ := run_append_mine (P := Tryz.prog) w base ts ts t i0 z k bytes hts hi hz0 hz1 hz2 hzs h0 v xs.length (us.flatMap Subtype.val) h1 ad ys.length c (ts2.flatMap Subtype.val) hv.length hc hone (by unfold maxLen; omega) (Nat.le_trans (Nat.mul_le_mul hn hby) (by decide)) hb
    obtain ⟨a', c', rfl⟩ := own_shape r2
    refine ⟨a', c', w', hid r1, hid ⟨us ++ ts2, ?_, by simp [h2, g2], ?_⟩, hid r3⟩
    · rw [List.length_append, List.flatMap_append]
      exact r2
    · have hz : ∀ b, ZofA w Y v b → ZofA w' Y (.slice a' (xs.length + ys.length) c') b := fun b hzb => by
        refine ⟨hzb.1, Nat.lt_of_lt_of_le hzb.2.1 r3.size, ?_⟩
        intro e
        rcases r3.own with q | q
        · rw [q] at e; exact hzb.2.2 e
        · have := q b e; have := hzb.2.1; omega
      have hk : Keep (fun b => v.ownBlock ≠ some b) w w' := Keep.ofGrow r3 (fun _ hk => hk)
      intro i u y hu hy
      by_cases hi : i < us.length
      · rw [List.getElem?_append_left hi] at hu
        rw [List.getElem?_append_left (by omega)] at hy
        exact F.go (h3 i u y hu hy) hk (fun b hz => hz.2.2) hz
      · rw [List.getElem?_append_right (by omega)] at hu
        rw [List.getElem?_append_right (by omega), ← h2] at hy
        exact F.go (g3 _ u y hu hy) hk (fun b hz => hz.2.2) hz
  rcases hv.cells with ⟨hl0, hn0⟩ | ⟨b', off, rfl, _, hc⟩
  · have hy0 : ys = [] := List.eq_nil_of_length_eq_zero hl0
    subst hy0
    have ht0 : ts2 = [] := List.eq_nil_of_length_eq_zero (by simpa using g2)
    subst ht0
    cases a with
    | none =>
      have hc0 := hn0 rfl
      subst hc0
      obtain ⟨va, vc, rfl⟩ := own_shape h1
      refine ⟨va, vc, w, hid ?_, hid ?_, hid (Grow.refl _ _)⟩
      · exact run_append_owned_none (P := Tryz.prog) (w := w) base ts ts t i0 k hts hi _ xs.length (us.flatMap Subtype.val) h1
      · rw [List.append_nil]
        exact ⟨us, h1, h2, h3⟩
    | some ad => exact key ad rfl (fun j u hu => by simp at hu)
  · exact key ⟨b', off, none⟩ rfl (fun j u hu => by rw [Addr.add_lit]; exact hc j u hu)
theorem wpList_appendz_ran {P : Program} {w : World} {ops : Array Oper} {rest : List Oper} {o : Oper} {a : Act} {Q : Exit → Act → World → Prop} (hgd : o.guard = none) (d s : Operand) (t t' : TypeId)
    (ho : o.op = .call { callee := .builtin .append, args := #[d, s], argTypes := #[t, t'] }) (v u : Value) (hd : a.eval d = v) (hs : a.eval s = u) {v' : Value} {w' : World}
    (hr : (Builtin.append_ #[t, t'] o.type #[v, u]).run P w = .ok v' w') (h : wpList P ops Q rest (a.put o.dst v') w') : wpList P ops Q (o :: rest) a w := by
  refine wpList_plain hgd fun K hK => ?_
  unfold Oper.wp
  simp [execOp, ho, resolve, invoke, builtin, hd, hs, hr, Result.andThen]
  exact hK _ _ h
theorem add_lit (b o j : Nat) : (⟨b, o, none⟩ : Addr).add j = ⟨b, o + j, none⟩ := by unfold Addr.add; split <;> simp_all
end Go.Proofs.YtmiemocdjkeefaaGreatDoor
