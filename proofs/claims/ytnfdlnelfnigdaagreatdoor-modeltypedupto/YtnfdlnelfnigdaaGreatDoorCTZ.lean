/-
  A table is good: what the program answers.
  A type by its name: both answers.
  The table of the examples.
  A type at its index, where it is a message of a good table.
  A type at its index, where there is none of that sort.
  A field by its number: where there is none; a field in memory of its own.
  A field by its number: what the program answers.
  What a field takes an entry as: what the program answers.
  Takes, Named: what the program answers.
  The walk through a message and all messages within it, by types.
-/
import Derived.Test.YtnfdlnelfnigdaaGreatDoorCTQ
import Derived.Test.YtnfdlnelfnigdaaGreatDoorCAB
namespace Go.Proofs.YtnfdlnelfnigdaaGreatDoor
open Go.RowKit
set_option maxRecDepth 1000000
set_option linter.unusedVariables false
set_option linter.unusedSimpArgs false
set_option maxHeartbeats 1000000
/-- What is asked of a table: that its texts and numbers can be. -/
structure OkV (x : TV) : Prop where
  ok : OkT x.t
  nl : x.t.name.length < 4294967281
  sz : x.t.fs.length + x.t.os.length + x.t.rs.length ≤ 9223372036854775807
def stepB (l : List TV) (j : Nat) (t : TT) : Bool := !named (l.take j) t.name && (fullB t && (standB l j t.name && typB l t))
def goodA (l : List TV) : List TV → Nat → Bool
  | [], _ => true
  | x :: r, j => stepB l j x.t && goodA l r (j + 1)
def goodB (l : List TV) : Bool := decide (l.length ≤ 128) && goodA l l 0
theorem run_makeMap0 {P : Program} (t : TypeId) (w : World) {ki e : TypeId} (ht : P.underlying t = some (.map ki e)) : (Instr.makeMap t none).run P w = .ok (.map (some w.heap.size)) (w.alloc (.map #[] 0)) := by
  simp [Instr.makeMap, run_underlying ht, Result.andThen]
theorem goodT (w : World) (l : List TV) (ta : Option Addr) (tc : Nat) (h : TbR w (.slice ta l.length tc) l) (hk : ∀ x ∈ l, OkV x) (m : Int) (hm : w.cell? ⟨0, 0, none⟩ = some (.int .i64 m)) : Calls Tryz.prog 76 #[.agg #[.slice ta l.length tc]] w fun e w' => e = .returned (.bool (goodB l)) ∧ Below w.heap.size w w' := by
  obtain ⟨_, _, e, hn⟩ := rowS_sl h.row
  clear e
  have h1 : (l.length : Int) ≤ 9223372036854775807 := by omega
  have HT := hid h
  have HK := hid hk
  have HM := hid hm
  clear h hk hm
  have HX : Hid (goodB l = (decide (l.length ≤ 128) && goodA l l 0)) := hid rfl
  by_cases hbig : 128 < l.length
  case pos =>
    have h2 : (128 : Int) < (l.length : Int) := by omega
    replace HX := hid (show goodB l = false by rw [HX.out, decide_eq_false (by omega)]; rfl)
    go_enter Tryz.func76, Tryz.ntmps76
    go_wp2
    go_ret
    exact ⟨ret_bool HX.out.symm, by exact blBy⟩
  have h2 : ¬ (128 : Int) < (l.length : Int) := by omega
  replace HX := hid (show goodB l = goodA l l 0 by rw [HX.out, decide_eq_true (by omega)]; rfl)
  have hmk := fun W => run_makeMap0 (P := Tryz.prog) 143 W Tryz.underlying143
  go_enter Tryz.func76, Tryz.ntmps76
  go_wp2
  clear hmk
  go_loopw [16] (fun r wr => ∃ j : Nat, r = .int .i64 j ∧ j ≤ l.length ∧ Hid (goodA l l 0 = goodA l (l.drop j) j) ∧ Hid (Kn wr (w.heap.size + 1) l j) ∧ Hid (Blk wr w.heap.size 46 #[.slice ta l.length tc]) ∧ Hid (Below w.heap.size w wr)) (fun r wr => l.length - numAt wr r)
  case atStart => exact ⟨0, rfl, by omega, hid rfl, hid (by have := Kn.new (w.alloc (Obj.cells #[Value.slice ta l.length tc] 46)) l; simpa using this), hid ((Blk.new _ _ _).kept (below_alloc _)), hid (by exact blBy)⟩
  case round =>
    obtain ⟨j, rfl, hj, hg, HKN, hB, hb⟩ := hrel
    by_cases hlt : j < l.length
    · have h3 : (j : Int) < (l.length : Int) := by omega
      have HST : Hid (goodA l (l.drop j) j = (stepB l j l[j].t && goodA l (l.drop (j + 1)) (j + 1))) := hid (by rw [List.drop_eq_getElem_cons hlt, goodA])
      have HTY := hid (HT.out.ty _ (List.getElem_mem hlt))
      have HOK := hid (HK.out _ (List.getElem_mem hlt))
      obtain ⟨tb, tof, rfl, hbl, c0, c1, c2, c3, c4, c5⟩ := row6 (HT.out.row.kept hb.out) hlt
      have HPUT : Hid (∀ W, Kn W (w.heap.size + 1) l j → named (l.take j) l[j].t.name = false → ∃ w', (Instr.mapUpdate 143 (.map (some (w.heap.size + 1))) (.string (strOfNums l[j].t.name)) (.int .i64 (j : Int))).run Tryz.prog W = .ok () w' ∧ Kn w' (w.heap.size + 1) l (j + 1) ∧ W.grownBy w' (some (w.heap.size + 1))) := hid fun W hW hN => hW.put hlt (by omega) (fun v hv => (HK.out v hv).ok.nm) hN
      generalize l[j] = x at *
      obtain ⟨t, f, o, s, r⟩ := x
      obtain ⟨fa, fc, ef, -⟩ := rowS_sl HTY.out.f
      obtain ⟨oa, oc, eo, -⟩ := rowS_sl HTY.out.o
      obtain ⟨sa, sc, es, -⟩ := rowS_sl HTY.out.s
      obtain ⟨ra, rc, er, -⟩ := rowS_sl HTY.out.r
      dsimp only at ef eo es er
      subst ef eo es er
      dsimp only at c0 c1 c2 c3 c4 c5
      obtain ⟨c, hr, -⟩ := (HKN.out.kept (below_alloc (w := wr) (.cells #[.string (strOfNums t.name), .bool t.enum, .slice fa t.fs.length fc, .slice oa t.os.length oc, .slice sa t.ss.length sc, .slice ra t.rs.length rc] 66))).look HOK.out.ok.nm
      try dsimp only at hr
      have Ba := hB.out
      have xa := Ba.cellF
      have ya := Ba.frz
      have za : w.heap.size < wr.heap.size := Ba.lt
      cases q0 : named (l.take j) t.name with
      | true =>
        rw [q0] at hr
        have HF : Hid (goodB l = false) := hid (by rw [HX.out, hg.out, HST.out]; simp [stepB, q0])
        go_wp2
        go_ret
        exact ⟨ret_bool HF.out.symm, by have := hb.out; exact blBy⟩
      | false =>
      rw [q0] at hr
      go_wp2_with fail
      refine (isFullNameT _ t _ _ _ _ m (cell_below HM.out (by have := hb.out; exact blBy)) HOK.out.ok.nm.1 HOK.out.nl).mono ?_
      rintro e w1 ⟨rfl, hb1⟩
      have Bb : Blk (wr.alloc (.cells #[.string (strOfNums t.name), .bool t.enum, .slice fa t.fs.length fc, .slice oa t.os.length oc, .slice sa t.ss.length sc, .slice ra t.rs.length rc] 66)) wr.heap.size 66 #[.string (strOfNums t.name), .bool t.enum, .slice fa t.fs.length fc, .slice oa t.os.length oc, .slice sa t.ss.length sc, .slice ra t.rs.length rc] := Blk.new _ _ _
      have Ba := Ba.kept (below_alloc (.cells #[.string (strOfNums t.name), .bool t.enum, .slice fa t.fs.length fc, .slice oa t.os.length oc, .slice sa t.ss.length sc, .slice ra t.rs.length rc] 66))
      replace HKN := hid (HKN.out.kept (below_alloc (.cells #[.string (strOfNums t.name), .bool t.enum, .slice fa t.fs.length fc, .slice oa t.os.length oc, .slice sa t.ss.length sc, .slice ra t.rs.length rc] 66)))
      have xb : True := trivial
      have yb : True := trivial
      have zb : True := trivial
      clear hr
      replace Ba : Blk w1 w.heap.size 46 #[.slice (some ⟨tb, tof, none⟩) l.length tc] := Blk.kept (Ba.is (by first | rfl | simp)) hb1
      replace Bb : Blk w1 wr.heap.size 66 #[.string (strOfNums t.name), .bool t.enum, .slice fa t.fs.length fc, .slice oa t.os.length oc, .slice sa t.ss.length sc, .slice ra t.rs.length rc] := Blk.kept (Bb.is (by first | rfl | simp)) hb1
      replace HKN := hid (HKN.out.kept hb1)
      clear xa ya xb yb
      have hs1 := hb1.size
      try simp at hs1
      have xa := Ba.cellF
      have ya := Ba.frz
      replace za : w.heap.size < w1.heap.size := by omega
      have xb := Bb.cellF
      have yb := Bb.frz
      replace zb : wr.heap.size < w1.heap.size := by omega
      replace hb1 : Hid (Below w.heap.size w w1) := hid (bl_then (by have := hb.out; exact blBy) hb1)
      cases q1 : fullB t with
      | false =>
        have HF : Hid (goodB l = false) := hid (by rw [HX.out, hg.out, HST.out]; simp [stepB, q0, q1])
        go_wp2
        go_ret
        exact ⟨ret_bool HF.out.symm, by have := hb1.out; exact blBy⟩
      | true =>
      go_wp2_with fail
      refine (standsRightT _ l _ tc (w.heap.size + 1) j t.name (HT.out.kept (by have := hb1.out; exact blBy)) HKN.out HOK.out.ok.nm HOK.out.nl).mono ?_
      rintro e w2 ⟨rfl, hb2⟩
      replace Ba : Blk w2 w.heap.size 46 #[.slice (some ⟨tb, tof, none⟩) l.length tc] := Blk.kept (Ba.is (by first | rfl | simp)) hb2
      replace Bb : Blk w2 wr.heap.size 66 #[.string (strOfNums t.name), .bool t.enum, .slice fa t.fs.length fc, .slice oa t.os.length oc, .slice sa t.ss.length sc, .slice ra t.rs.length rc] := Blk.kept (Bb.is (by first | rfl | simp)) hb2
      replace HKN := hid (HKN.out.kept hb2)
      clear xa ya xb yb
      have hs2 := hb2.size
      try simp at hs2
      have xa := Ba.cellF
      have ya := Ba.frz
      replace za : w.heap.size < w2.heap.size := by omega
      have xb := Bb.cellF
      have yb := Bb.frz
      replace zb : wr.heap.size < w2.heap.size := by omega
      replace hb2 : Hid (Below w.heap.size w w2) := hid (bl_then hb1.out hb2)
      cases q2 : standB l j t.name with
      | false =>
        have HF : Hid (goodB l = false) := hid (by rw [HX.out, hg.out, HST.out]; simp [stepB, q0, q1, q2])
        go_wp2
        go_ret
        exact ⟨ret_bool HF.out.symm, by have := hb2.out; exact blBy⟩
      | true =>
      go_wp2_with fail
      refine (isGoodTypeT _ l _ tc t fa oa sa ra fc oc sc rc (HT.out.kept (by have := hb2.out; exact blBy)) (HTY.out.kept (by have := hb2.out; exact blBy)) HOK.out.ok HOK.out.sz).mono ?_
      rintro e w3 ⟨rfl, hb3⟩
      replace Ba : Blk w3 w.heap.size 46 #[.slice (some ⟨tb, tof, none⟩) l.length tc] := Blk.kept (Ba.is (by first | rfl | simp)) hb3
      replace Bb : Blk w3 wr.heap.size 66 #[.string (strOfNums t.name), .bool t.enum, .slice fa t.fs.length fc, .slice oa t.os.length oc, .slice sa t.ss.length sc, .slice ra t.rs.length rc] := Blk.kept (Bb.is (by first | rfl | simp)) hb3
      replace HKN := hid (HKN.out.kept hb3)
      clear xa ya xb yb
      have hs3 := hb3.size
      try simp at hs3
      have xa := Ba.cellF
      have ya := Ba.frz
      replace za : w.heap.size < w3.heap.size := by omega
      have xb := Bb.cellF
      have yb := Bb.frz
      replace zb : wr.heap.size < w3.heap.size := by omega
      replace hb3 : Hid (Below w.heap.size w w3) := hid (bl_then hb2.out hb3)
      cases q3 : typB l t with
      | false =>
        have HF : Hid (goodB l = false) := hid (by rw [HX.out, hg.out, HST.out]; simp [stepB, q0, q1, q2, q3])
        go_wp2
        go_ret
        exact ⟨ret_bool HF.out.symm, by have := hb3.out; exact blBy⟩
      | true =>
      obtain ⟨w4, hr4, hk4, hg4⟩ := HPUT.out w3 HKN.out q0
      try dsimp only at hr4
      have HK4 := hid hk4
      have HB4 : Hid (Blk w4 w.heap.size 46 #[.slice (some ⟨tb, tof, none⟩) l.length tc]) := hid ((hg4.block _ za (by simp)).trans Ba)
      have HL4 : Hid (Below w.heap.size w w4) := hid (hb3.out.trans (grown_below hg4 (by omega) (by omega)))
      clear hk4 hg4
      go_wp2
      exact ⟨⟨j + 1, by simp, by omega, hid (by rw [hg.out, HST.out]; simp [stepB, q0, q1, q2, q3]), HK4, HB4, HL4⟩, by simp [numAt]; omega⟩
    · have h3 : ¬ (j : Int) < (l.length : Int) := by omega
      have HF : Hid (goodB l = true) := hid (by rw [HX.out, hg.out, List.drop_of_length_le (by omega)]; rfl)
      go_wp2
      go_ret
      exact ⟨ret_bool HF.out.symm, hb.out⟩
end Go.Proofs.YtnfdlnelfnigdaaGreatDoor
namespace Go.Proofs.YtnfdlnelfnigdaaGreatDoor
open Go.RowKit
set_option maxRecDepth 1000000
set_option linter.unusedVariables false
set_option linter.unusedSimpArgs false
set_option maxHeartbeats 1000000
def nameP (nm : List Int) (v : TV) : Bool := decide (v.t.name = nm)
theorem fnd_ge {α : Type} (p : α → Bool) : ∀ (l : List α) (i : Nat), fnd p l i < 0 → fnd p l i = -1
  | [], i, _ => rfl
  | x :: r, i, h => by
    rw [fnd] at h ⊢
    split at h
    · omega
    · rename_i q
      rw [if_neg q]
      exact fnd_ge p r (i + 1) h
end Go.Proofs.YtnfdlnelfnigdaaGreatDoor
namespace Go.Proofs.YtnfdlnelfnigdaaGreatDoor
open Go.RowKit
set_option maxRecDepth 1000000
set_option linter.unusedVariables false
set_option linter.unusedSimpArgs false
set_option maxHeartbeats 1000000
theorem rowOf {w : World} {b : Nat} {t : TypeId} {cs : Array Value} (B : Blk w b t cs) (k n : Nat) (fl : List Value) (h : cs = fl.toArray) (hl : fl.length = n * k) (hn : n ≤ 9223372036854775807) : RowS w AnyZ k (.slice (some ⟨b, 0, none⟩) n n) n fl :=
  ⟨some ⟨b, 0, none⟩, n, rfl, hl, Nat.le_refl _, hn, .inr ⟨b, 0, rfl, trivial, fun j u hu => by
    rw [Nat.zero_add]
    exact B.cell j u (by rw [h, List.getElem?_toArray]; exact hu)⟩⟩
def simE (h : Nat) : TV := ⟨⟨[69], true, [], [], [⟨[65], 0⟩], []⟩, .slice none 0 0, .slice none 0 0, .slice (some ⟨h + 1, 0, none⟩) 1 1, .slice none 0 0⟩
def simF : List FT := [⟨[120], 1, 2, 0, 0, 0, 0⟩, ⟨[108], 2, 4, 0, 3, 0, 0⟩, ⟨[109], 3, 17, 1, 1, 0, 0⟩]
def simM (h : Nat) : TV := ⟨⟨[77], false, simF, [], [], []⟩, .slice (some ⟨h + 1 + 1, 0, none⟩) 3 3, .slice none 0 0, .slice none 0 0, .slice none 0 0⟩
def simL (h : Nat) : List TV := [simE h, simM h]
theorem simpleW (w : World) : Calls Tryz.prog 14 #[] w fun e w' => e = .returned (.agg #[.slice (some ⟨w.heap.size + 1 + 1 + 1, 0, none⟩) (simL w.heap.size).length 2]) ∧ TbR w' (.slice (some ⟨w.heap.size + 1 + 1 + 1, 0, none⟩) (simL w.heap.size).length 2) (simL w.heap.size) ∧ Below w.heap.size w w' := by
  have HT : Hid (∀ W : World, Blk W (w.heap.size + 1) 75 #[.string ⟨#[65]⟩, .int .i64 0] → Blk W (w.heap.size + 1 + 1) 77 #[.string ⟨#[120]⟩, .int .i64 1, .int .i64 2, .int .i64 0, .int .i64 0, .int .i64 0, .int .i64 0, .string ⟨#[108]⟩, .int .i64 2, .int .i64 4, .int .i64 0, .int .i64 3, .int .i64 0, .int .i64 0, .string ⟨#[109]⟩, .int .i64 3, .int .i64 17, .int .i64 1, .int .i64 1, .int .i64 0, .int .i64 0] → Blk W (w.heap.size + 1 + 1 + 1) 66 #[.string ⟨#[69]⟩, .bool true, .slice none 0 0, .slice none 0 0, .slice (some ⟨w.heap.size + 1, 0, none⟩) 1 1, .slice none 0 0, .string ⟨#[77]⟩, .bool false, .slice (some ⟨w.heap.size + 1 + 1, 0, none⟩) 3 3, .slice none 0 0, .slice none 0 0, .slice none 0 0] → TbR W (.slice (some ⟨w.heap.size + 1 + 1 + 1, 0, none⟩) (simL w.heap.size).length 2) (simL w.heap.size)) := hid fun W B1 B2 B3 => by
    refine ⟨rowOf B3 6 2 _ rfl rfl (by decide), fun x hx => ?_⟩
    rcases List.mem_cons.1 hx with rfl | hx
    · exact ⟨rowS_nil _ _ _, rowS_nil _ _ _, rowOf B1 2 1 _ rfl rfl (by decide), rowS_nil _ _ _⟩
    · rcases List.mem_cons.1 hx with rfl | hx
      · exact ⟨rowOf B2 7 3 _ rfl rfl (by decide), rowS_nil _ _ _, rowS_nil _ _ _, rowS_nil _ _ _⟩
      · cases hx
  go_enter Tryz.func14, Tryz.ntmps14
  go_wp2
  refine bodyPost_ret (v := .agg #[.slice (some ⟨w.heap.size + 1 + 1 + 1, 0, none⟩) 2 2]) (by simp [results, Tryz.results14, go_sem]) rfl ⟨rfl, HT.out _ ?_ ?_ ?_, by exact blBy⟩
  · exact ((Blk.newAt (by simp)).kept (below_alloc _)).kept (below_alloc _)
  · exact (Blk.newAt (by simp)).kept (below_alloc _)
  · exact Blk.newAt (by simp)
theorem simGood (h : Nat) : goodB (simL h) = true := by kernel_rfl
theorem simOk (h : Nat) : ∀ x ∈ simL h, OkV x := by
  have tx : ∀ n : List Int, n ∈ ([[69], [77], [65], [120], [108], [109]] : List (List Int)) → TxA n := by
    intro n hn
    simp only [List.mem_cons, List.not_mem_nil, or_false] at hn
    rcases hn with rfl | rfl | rfl | rfl | rfl | rfl <;> exact ⟨by decide, by decide⟩
  intro x hx
  rcases List.mem_cons.1 hx with rfl | hx
  · refine ⟨⟨tx _ (by simp [simE]), by simp [simE], by simp [simE], fun s hs => ?_⟩, by simp [simE], by simp [simE]⟩
    simp [simE] at hs
    subst hs
    exact ⟨tx _ (by simp), by unfold I64; decide⟩
  · rcases List.mem_cons.1 hx with rfl | hx
    · refine ⟨⟨tx _ (by simp [simM]), fun f hf => ?_, by simp [simM], by simp [simM]⟩, by simp [simM], by simp [simM, simF]⟩
      simp [simM, simF] at hf
      rcases hf with rfl | rfl | rfl <;> exact tx _ (by simp)
    · cases hx
end Go.Proofs.YtnfdlnelfnigdaaGreatDoor
namespace Go.Proofs.YtnfdlnelfnigdaaGreatDoor
open Go.RowKit
set_option maxRecDepth 1000000
set_option linter.unusedVariables false
set_option linter.unusedSimpArgs false
set_option maxHeartbeats 1000000
/-- What Find answers, where a field has that number. -/
theorem fieldOfOk (fs : List FT) (n : Int) (w : World) (a : Option Addr) (c : Nat) (h : RowS w AnyZ 7 (.slice a fs.length c) fs.length (fs.flatMap cFT)) (hr : Rise fs) (hl : fs.length ≤ 128) (k : Nat) (hk : k < fs.length) (hn : fs[k].num = n) : Calls Tryz.prog 74 #[.slice a fs.length c, .int .i64 n] w fun e w' => e = .returned (.tuple #[.agg #[.string (strOfNums fs[k].name), .int .i64 fs[k].num, .int .i64 fs[k].kind, .int .i64 fs[k].ref, .int .i64 fs[k].lab, .int .i64 fs[k].one, .int .i64 fs[k].key], .bool true]) ∧ Below w.heap.size w w' := by
  have HL : Hid (∀ W, Below w.heap.size w W → Calls Tryz.prog 106 #[.slice a fs.length c, .int .i64 n] W fun e w' => e = .returned (.tuple #[.agg #[.string (strOfNums fs[k].name), .int .i64 fs[k].num, .int .i64 fs[k].kind, .int .i64 fs[k].ref, .int .i64 fs[k].lab, .int .i64 fs[k].one, .int .i64 fs[k].key], .bool true]) ∧ Below W.heap.size W w') := hid fun W hW => ((lastUpToT fs n W a c (h.kept hW) hr hl).mono fun e w' hq => by
    rcases hq with ⟨⟨_, h1⟩ | ⟨j, hj, e1, h1, h2⟩, hb⟩
    · have := h1 k hk; omega
    · have ej : j = k := by
        rcases Nat.lt_trichotomy j k with q | q | q
        · have := h2 k q hk; omega
        · exact q
        · have := hr k j q hj hk; omega
      subst ej
      exact ⟨e1, hb⟩)
  clear h hr
  subst hn
  generalize fs[k] = f at *
  have kq : (f.num == f.num) = true := by simp
  go_enter Tryz.func74, Tryz.ntmps74
  go_wp2_with fail
  refine (HL.out _ (by exact blBy)).mono ?_
  rintro e w1 ⟨rfl, hb1⟩
  have Br : Blk w1 w.heap.size 77 #[.string ⟨#[]⟩, .int .i64 0, .int .i64 0, .int .i64 0, .int .i64 0, .int .i64 0, .int .i64 0] := (Blk.new _ _ _).kept hb1
  replace hb1 : Hid (Below w.heap.size w w1) := hid (bl_then (by exact blBy) hb1)
  have xr := Br.cellF
  have yr := Br.frz
  have zr := Br.lt
  go_wp2
  exact bodyPost_ret (v := .tuple #[.agg #[.string (strOfNums f.name), .int .i64 f.num, .int .i64 f.kind, .int .i64 f.ref, .int .i64 f.lab, .int .i64 f.one, .int .i64 f.key], .bool true]) (by simp [results, Tryz.results74, go_sem, xr, zr, yr]) rfl ⟨rfl, by have := hb1.out; exact blBy⟩
/-- In which wire kind a field's values stand, whatever the field. -/
theorem valueWireG (f : FT) (w : World) : Calls Tryz.prog 132 #[.agg #[.string (strOfNums f.name), .int .i64 f.num, .int .i64 f.kind, .int .i64 f.ref, .int .i64 f.lab, .int .i64 f.one, .int .i64 f.key]] w fun e w' => e = .returned (.tuple #[.int .i64 (if f.lab = 5 then 2 else max (kwire f.kind) 0), .int .i64 (if f.lab = 5 then 0 else kwireE f.kind)]) ∧ Below w.heap.size w w' := by
  have HK := hid (wireKW f.kind)
  by_cases h5 : f.lab = 5
  · rw [if_pos h5, if_pos h5]
    have k5 : (f.lab == 5) = true := by simpa using h5
    clear h5
    go_enter Tryz.func132, Tryz.ntmps132
    go_wp2
    go_ret2
    exact ⟨rfl, by exact blBy⟩
  · rw [if_neg h5, if_neg h5]
    have k5 : (f.lab == 5) = false := by simpa using h5
    clear h5
    generalize max (kwire f.kind) 0 = kw at *
    generalize kwireE f.kind = ke at *
    go_enter Tryz.func132, Tryz.ntmps132
    go_wp2_with (first | (go_at_call 153; refine (HK.out _).mono ?_; rintro e w1 ⟨rfl, rfl⟩))
    go_ret2
    exact ⟨rfl, by exact blBy⟩
end Go.Proofs.YtnfdlnelfnigdaaGreatDoor
namespace Go.Proofs.YtnfdlnelfnigdaaGreatDoor
open Go.RowKit
set_option maxRecDepth 1000000
set_option linter.unusedVariables false
set_option linter.unusedSimpArgs false
set_option maxHeartbeats 1000000
/-- Is there a type of that sort at an index of a good table? -/
def isB (l : List TV) (idx : Int) (sort : Bool) : Bool := goodB l && (decide (0 ≤ idx) && (match l[idx.toNat]? with | some x => x.t.enum == sort | none => false))
end Go.Proofs.YtnfdlnelfnigdaaGreatDoor
namespace Go.Proofs.YtnfdlnelfnigdaaGreatDoor
open Go.RowKit
set_option maxRecDepth 1000000
set_option linter.unusedVariables false
set_option linter.unusedSimpArgs false
set_option maxHeartbeats 1000000
/-- The values of a field. -/
def aFT (f : FT) : Value := .agg #[.string (strOfNums f.name), .int .i64 f.num, .int .i64 f.kind, .int .i64 f.ref, .int .i64 f.lab, .int .i64 f.one, .int .i64 f.key]
def ftZ : FT := ⟨[], 0, 0, 0, 0, 0, 0⟩
theorem fieldOfNo (fs : List FT) (n : Int) (w : World) (a : Option Addr) (c : Nat) (h : RowS w AnyZ 7 (.slice a fs.length c) fs.length (fs.flatMap cFT)) (hr : Rise fs) (hl : fs.length ≤ 128) (hno : ∀ f ∈ fs, f.num ≠ n) : Calls Tryz.prog 74 #[.slice a fs.length c, .int .i64 n] w fun e w' => e = .returned (.tuple #[.agg #[.string ⟨#[]⟩, .int .i64 0, .int .i64 0, .int .i64 0, .int .i64 0, .int .i64 0, .int .i64 0], .bool false]) ∧ Below w.heap.size w w' := by
  have HL : Hid (∀ W, Below w.heap.size w W → Calls Tryz.prog 106 #[.slice a fs.length c, .int .i64 n] W fun e w' => (∃ (g : FT) (ok : Bool), e = .returned (.tuple #[.agg #[.string (strOfNums g.name), .int .i64 g.num, .int .i64 g.kind, .int .i64 g.ref, .int .i64 g.lab, .int .i64 g.one, .int .i64 g.key], .bool ok]) ∧ Hid (ok = true → (g.num == n) = false)) ∧ Below W.heap.size W w') := hid fun W hW => ((lastUpToT fs n W a c (h.kept hW) hr hl).mono fun e w' hq => by
    rcases hq with ⟨⟨e1, _⟩ | ⟨j, hj, e1, h1, h2⟩, hb⟩
    · exact ⟨⟨ftZ, false, e1, hid (fun q => by cases q)⟩, hb⟩
    · exact ⟨⟨fs[j], true, e1, hid (fun _ => by rw [beq_eq_false_iff_ne]; exact hno _ (List.getElem_mem hj))⟩, hb⟩)
  clear h hr hno
  go_enter Tryz.func74, Tryz.ntmps74
  go_wp2_with fail
  refine (HL.out _ (by exact blBy)).mono ?_
  rintro e w1 ⟨⟨f, ok, rfl, hok⟩, hb1⟩
  have Br : Blk w1 w.heap.size 77 #[.string ⟨#[]⟩, .int .i64 0, .int .i64 0, .int .i64 0, .int .i64 0, .int .i64 0, .int .i64 0] := (Blk.new _ _ _).kept hb1
  replace hb1 : Hid (Below w.heap.size w w1) := hid (bl_then (by exact blBy) hb1)
  have xr := Br.cellF
  have yr := Br.frz
  have zr := Br.lt
  cases ok with
  | false =>
    go_wp2
    exact bodyPost_ret (v := .tuple #[.agg #[.string ⟨#[]⟩, .int .i64 0, .int .i64 0, .int .i64 0, .int .i64 0, .int .i64 0, .int .i64 0], .bool false]) (by simp [results, Tryz.results74, go_sem, xr, zr, yr]) rfl ⟨rfl, by have := hb1.out; exact blBy⟩
  | true =>
    have kq := hok.out rfl
    go_wp2
    exact bodyPost_ret (v := .tuple #[.agg #[.string ⟨#[]⟩, .int .i64 0, .int .i64 0, .int .i64 0, .int .i64 0, .int .i64 0, .int .i64 0], .bool false]) (by simp [results, Tryz.results74, go_sem, xr, zr, yr]) rfl ⟨rfl, by have := hb1.out; exact blBy⟩
theorem good_at {l : List TV} (hg : goodB l = true) {k : Nat} (hk : k < l.length) : stepB l k l[k].t = true := by
  unfold goodB at hg
  rw [Bool.and_eq_true] at hg
  have : ∀ (r : List TV) (i j : Nat), goodA l r i = true → (hj : j < r.length) → stepB l (i + j) r[j].t = true := by
    intro r
    induction r with
    | nil => intro i j _ hj; simp at hj
    | cons x r ih =>
      intro i j h hj
      rw [goodA, Bool.and_eq_true] at h
      cases j with
      | zero => exact h.1
      | succ j =>
        have := ih (i + 1) j h.2 (by simpa using hj)
        rw [show i + (j + 1) = i + 1 + j by omega]
        exact this
  have := this l 0 k hg.2 hk
  rw [Nat.zero_add] at this
  exact this
theorem good_msg {l : List TV} (hg : goodB l = true) {k : Nat} (hk : k < l.length) (he : l[k].t.enum = false) : Rise l[k].t.fs ∧ l[k].t.fs.length ≤ 128 := by
  have h := good_at hg hk
  unfold stepB typB msgB at h
  rw [he] at h
  simp only [Bool.and_eq_true, decide_eq_true_eq] at h
  have h2 := h.2.2.2
  simp only [Bool.false_eq_true, if_false, Bool.and_eq_true, decide_eq_true_eq] at h2
  exact ⟨(rise_all _ 0 h2.2.2.2.1).2, h2.2.1.1⟩
end Go.Proofs.YtnfdlnelfnigdaaGreatDoor
namespace Go.Proofs.YtnfdlnelfnigdaaGreatDoor
open Go.RowKit
set_option maxRecDepth 1000000
set_option linter.unusedVariables false
set_option linter.unusedSimpArgs false
set_option maxHeartbeats 1000000
theorem isB_at {l : List TV} {idx : Int} {sort : Bool} (h : isB l idx sort = true) : ∃ (k : Nat) (hk : k < l.length), idx = (k : Int) ∧ goodB l = true ∧ l[k].t.enum = sort := by
  unfold isB at h
  simp only [Bool.and_eq_true, decide_eq_true_eq] at h
  obtain ⟨h1, h2, h3⟩ := h
  obtain ⟨k, rfl⟩ := Int.eq_ofNat_of_zero_le h2
  rw [Int.toNat_natCast] at h3
  by_cases hk : k < l.length
  · rw [List.getElem?_eq_getElem hk] at h3
    exact ⟨k, hk, rfl, h1, by simpa using h3⟩
  · rw [List.getElem?_eq_none (by omega)] at h3
    cases h3
end Go.Proofs.YtnfdlnelfnigdaaGreatDoor
namespace Go.Proofs.YtnfdlnelfnigdaaGreatDoor
open Go.RowKit
set_option maxRecDepth 1000000
set_option linter.unusedVariables false
set_option linter.unusedSimpArgs false
set_option maxHeartbeats 1000000
/-- The wire kind of a field's values (of a kind that is one). -/
def wireF (f : FT) : Int := if f.lab = 5 then 2 else max (kwire f.kind) 0
def rowsF (f : FT) : Bool := decide (f.lab = 2 ∨ f.lab = 3) && knum f.kind
theorem beq_dec (a b : Int) : (a == b) = decide (a = b) := by by_cases h : a = b <;> simp [h]
/-- Does it take entries of a wire kind as values, as rows? -/
def tvF (f : FT) (k : Int) : Bool := if f.lab = 5 then decide (k = 2) else (decide (kwireE f.kind = 0) && decide (k = max (kwire f.kind) 0))
def trF (f : FT) (k : Int) : Bool := rowsF f && decide (k = 2)
def takenF (f : FT) (k : Int) : Int := if tvF f k = true then 1 else if trF f k = true then 2 else 0
section
variable (f : FT) (w : World)
theorem takesValueT (k : Int) : Calls Tryz.prog 104 #[.agg #[.string (strOfNums f.name), .int .i64 f.num, .int .i64 f.kind, .int .i64 f.ref, .int .i64 f.lab, .int .i64 f.one, .int .i64 f.key], .int .i64 k] w fun e w' => e = .returned (.bool (tvF f k)) ∧ Below w.heap.size w w' := by
  have HV := hid fun W => valueWireG f W
  have HX : Hid (tvF f k = if f.lab = 5 then decide (k = 2) else (decide (kwireE f.kind = 0) && decide (k = max (kwire f.kind) 0))) := hid rfl
  generalize tvF f k = res at *
  by_cases h : f.lab = 5
  · rw [if_pos h, if_pos h] at HV
    rw [if_pos h] at HX
    replace h := hid h
    go_enter Tryz.func104, Tryz.ntmps104
    go_wp2_with fail
    refine (HV.out _).mono ?_
    rintro e w1 ⟨rfl, hb1⟩
    have HB : Hid (Below w.heap.size w w1) := hid (bl_then (by exact blBy) hb1)
    clear hb1
    go_wp2
    go_ret
    exact ⟨ret_bool (by rw [HX.out]; exact beq_dec k 2), HB.out⟩
  · rw [if_neg h, if_neg h] at HV
    rw [if_neg h] at HX
    replace h := hid h
    generalize max (kwire f.kind) 0 = kw at *
    generalize kwireE f.kind = ke at *
    by_cases h0 : ke = 0
    · have k0 : (ke == 0) = true := by simpa using h0
      rw [decide_eq_true h0, Bool.true_and] at HX
      replace h0 := hid h0
      go_enter Tryz.func104, Tryz.ntmps104
      go_wp2_with fail
      refine (HV.out _).mono ?_
      rintro e w1 ⟨rfl, hb1⟩
      have HB : Hid (Below w.heap.size w w1) := hid (bl_then (by exact blBy) hb1)
      clear hb1
      go_wp2
      go_ret
      exact ⟨ret_bool (by rw [HX.out]; exact beq_dec k kw), HB.out⟩
    · have k0 : (ke == 0) = false := by simpa using h0
      rw [decide_eq_false h0, Bool.false_and] at HX
      replace h0 := hid h0
      go_enter Tryz.func104, Tryz.ntmps104
      go_wp2_with fail
      refine (HV.out _).mono ?_
      rintro e w1 ⟨rfl, hb1⟩
      have HB : Hid (Below w.heap.size w w1) := hid (bl_then (by exact blBy) hb1)
      clear hb1
      go_wp2
      go_ret
      exact ⟨ret_bool HX.out.symm, HB.out⟩
theorem takesRowT (k : Int) : Calls Tryz.prog 105 #[.agg #[.string (strOfNums f.name), .int .i64 f.num, .int .i64 f.kind, .int .i64 f.ref, .int .i64 f.lab, .int .i64 f.one, .int .i64 f.key], .int .i64 k] w fun e w' => e = .returned (.bool (trF f k)) ∧ Below w.heap.size w w' := by
  have HK := hid (numericW f.kind)
  have HX : Hid (trF f k = ((decide (f.lab = 2 ∨ f.lab = 3) && knum f.kind) && decide (k = 2))) := hid rfl
  generalize knum f.kind = kn at *
  generalize trF f k = res at *
  by_cases h2 : f.lab = 2
  · have k2 : (f.lab == 2) = true := by simpa using h2
    rw [decide_eq_true (.inl h2), Bool.true_and] at HX
    replace h2 := hid h2
    cases kn <;>
    · go_enter Tryz.func105, Tryz.ntmps105
      go_wp2_with (first | (go_at_call 133; refine (HK.out _).mono ?_; rintro e w1 ⟨rfl, rfl⟩))
      go_ret
      exact ⟨ret_bool (by rw [HX.out]; simp [beq_dec]), by exact blBy⟩
  · have k2 : (f.lab == 2) = false := by simpa using h2
    by_cases h3 : f.lab = 3
    · have k3 : (f.lab == 3) = true := by simpa using h3
      rw [decide_eq_true (.inr h3), Bool.true_and] at HX
      replace h2 := hid h2
      replace h3 := hid h3
      cases kn <;>
      · go_enter Tryz.func105, Tryz.ntmps105
        go_wp2_with (first | (go_at_call 133; refine (HK.out _).mono ?_; rintro e w1 ⟨rfl, rfl⟩))
        go_ret
        exact ⟨ret_bool (by rw [HX.out]; simp [beq_dec]), by exact blBy⟩
    · have k3 : (f.lab == 3) = false := by simpa using h3
      rw [decide_eq_false (by omega), Bool.false_and, Bool.false_and] at HX
      replace h2 := hid h2
      replace h3 := hid h3
      go_enter Tryz.func105, Tryz.ntmps105
      go_wp2
      go_ret
      exact ⟨ret_bool HX.out.symm, by exact blBy⟩
end
end Go.Proofs.YtnfdlnelfnigdaaGreatDoor
namespace Go.Proofs.YtnfdlnelfnigdaaGreatDoor
open Go.RowKit
set_option maxRecDepth 1000000
set_option linter.unusedVariables false
set_option linter.unusedSimpArgs false
set_option maxHeartbeats 1000000
theorem fnd_find {α : Type} (p : α → Bool) : ∀ (l : List α) (i : Nat), (fnd p l i < 0 ∧ l.find? p = none) ∨ ∃ (j : Nat) (hj : j < l.length), fnd p l i = ((i + j : Nat) : Int) ∧ l.find? p = some l[j]
  | [], i => .inl ⟨by simp [fnd], rfl⟩
  | x :: r, i => by
    rw [fnd, List.find?_cons]
    by_cases h : p x = true
    · rw [if_pos h, h]
      exact .inr ⟨0, by simp, by simp, rfl⟩
    · rw [if_neg h, Bool.eq_false_iff.2 h]
      rcases fnd_find p r (i + 1) with ⟨h1, h2⟩ | ⟨j, hj, h1, h2⟩
      · exact .inl ⟨h1, h2⟩
      · exact .inr ⟨j + 1, by simp; omega, by rw [h1]; congr 1; omega, by simpa using h2⟩
end Go.Proofs.YtnfdlnelfnigdaaGreatDoor
namespace Go.Proofs.YtnfdlnelfnigdaaGreatDoor
open Go.RowKit Go.Shelf
set_option maxRecDepth 1000000
attribute [local go_sem] Oper.semAt_some
set_option linter.unusedVariables false
set_option linter.unusedSimpArgs false
set_option maxHeartbeats 2000000
/-- What the walk answers. -/
def walkB (hold : TV → CM → Bool) (blw : TV → CF CM → TV) : Nat → TV → CM → Bool
  | 0, _, _ => true
  | d + 1, x, m => hold x m && m.fs.all (fun f => (allM f).all (walkB hold blw d (blw x f)))
/-- A type's four lists, as slices. -/
def ShT (x : TV) : Prop := ∃ a1 c1 a2 c2 a3 c3 a4 c4, x.f = .slice a1 x.t.fs.length c1 ∧ x.o = .slice a2 x.t.os.length c2 ∧ x.s = .slice a3 x.t.ss.length c3 ∧ x.r = .slice a4 x.t.rs.length c4
/-- What the walk is handed: two functions, and what they answer. -/
structure WkH (Z : Nat → Prop) (Ok : World → Prop) (In : TV → Prop) (Q : Nat → TV → CM → Prop) (hold : TV → CM → Bool) (blw : TV → CF CM → TV) (fh fb : FuncId) (ch cb : Array Value) : Prop where
  kept : ∀ {W W' : World}, Ok W → Below W.heap.size W W' → Ok W'
  sh : ∀ x, In x → ShT x
  eh : ∀ (args : Array Value) (W : World), (callFunc fh args).run Tryz.prog W = .ok (.enter fh args) W
  eb : ∀ (args : Array Value) (W : World), (callFunc fb args).run Tryz.prog W = .ok (.enter fb args) W
  h : ∀ (W : World) (x : TV) (d : Nat) (cs : List Value) (m : CM), Ok W → In x → Q d x m → MsgE W Z d cs m → Calls Tryz.prog fh (ch ++ #[.agg (cTV x).toArray, .agg cs.toArray]) W fun e w' => e = .returned (.bool (hold x m)) ∧ Below W.heap.size W w'
  b : ∀ (W : World) (x : TV) (d : Nat) (cs : List Value) (m : CM) (f : CF CM), Ok W → In x → Q (d + 1) x m → hold x m = true → f ∈ m.fs → FldE W Z (MsgE W Z d) cs f → Calls Tryz.prog fb (cb ++ #[.agg (cTV x).toArray, .agg cs.toArray]) W fun e w' => e = .returned (.agg (cTV (blw x f)).toArray) ∧ Below W.heap.size W w'
  i : ∀ (x : TV) (d : Nat) (m : CM) (f : CF CM), In x → Q (d + 1) x m → hold x m = true → f ∈ m.fs → In (blw x f)
  q : ∀ (x : TV) (d : Nat) (m : CM) (f : CF CM) (z : CM), In x → Q (d + 1) x m → hold x m = true → f ∈ m.fs → z ∈ allM f → Q d (blw x f) z
def WkAt (Z : Nat → Prop) (Ok : World → Prop) (In : TV → Prop) (Q : Nat → TV → CM → Prop) (hold : TV → CM → Bool) (blw : TV → CF CM → TV) (fh fb : FuncId) (ch cb : Array Value) (d : Nat) : Prop := ∀ (w : World) (x : TV) (cs : List Value) (m : CM), Ok w → In x → Q d x m → MsgE w Z d cs m → Calls Tryz.prog 37 #[.agg (cTV x).toArray, .agg cs.toArray, .func (.func fh) ch #[], .func (.func fb) cb #[]] w fun e w' => e = .returned (.bool (walkB hold blw d x m)) ∧ Below w.heap.size w w'
/-- What a range over a function leaves to be collected. -/
def mkD (D : Nat) : Deferred := { target := .collected D, args := #[] }
def Coll (W : World) (base : Nat) (Ds : List Nat) : Prop := Ds.Nodup ∧ ∀ D ∈ Ds, base ≤ D ∧ W.heap[D]? = some (.deferred (some []))
theorem Coll.nil (W : World) (base : Nat) : Coll W base [] := ⟨List.nodup_nil, fun D h => by cases h⟩
theorem Coll.lt {W : World} {base : Nat} {Ds : List Nat} (h : Coll W base Ds) {D : Nat} (hD : D ∈ Ds) : D < W.heap.size := (Array.getElem?_eq_some_iff.1 (h.2 D hD).2).1
theorem Coll.cons {W : World} {base : Nat} {Ds : List Nat} {D : Nat} (h : Coll W base Ds) (hb : base ≤ D) (hn : D ∉ Ds) (hD : W.heap[D]? = some (.deferred (some []))) : Coll W base (D :: Ds) :=
  ⟨List.nodup_cons.2 ⟨hn, h.1⟩, fun E hE => by rcases List.mem_cons.1 hE with rfl | hE; exact ⟨hb, hD⟩; exact h.2 E hE⟩
theorem Coll.keep {W W' : World} {base : Nat} {Ds : List Nat} (h : Coll W base Ds) (hk : ∀ D ∈ Ds, W'.heap[D]? = W.heap[D]?) : Coll W' base Ds := ⟨h.1, fun D hD => ⟨(h.2 D hD).1, (hk D hD).trans (h.2 D hD).2⟩⟩
theorem Coll.kept {W W' : World} {base : Nat} {Ds : List Nat} (h : Coll W base Ds) (hb : Below W.heap.size W W') : Coll W' base Ds := h.keep (fun D hD => hb.block D (h.lt hD))
/-- The same but for blocks from base on. -/
theorem putObj_below {W : World} {base D : Nat} (hb : base ≤ D) (hs : base ≤ W.heap.size) (o : Obj) : Below base W (W.putObj D o) := ⟨rfl, rfl, rfl, by simp [World.putObj], fun k hk => by simp [World.putObj, Array.getElem?_setIfInBounds]; omega⟩
theorem putObj_other {W : World} {k D : Nat} (h : k ≠ D) (o : Obj) : (W.putObj D o).heap[k]? = W.heap[k]? := by simp [World.putObj, Array.getElem?_setIfInBounds]; omega
theorem leave_all {fn : Func} {tmps : Array Value} {R : Ending → World → Prop} {base : Nat} (n : Nat) : ∀ (Ds : List Nat) (W : World), Coll W base Ds → base ≤ W.heap.size → (∀ W', Below base W W' → ∃ v, (results fn tmps).run Tryz.prog W' = .ok v W' ∧ R (.returned v) W') → LeavesInM Fence.wide n Tryz.prog fn tmps R (Ds.map mkD) .returning W
  | [], W, _, _, h => h W (Below.refl _ _)
  | D :: Ds, W, hc, hs, h => by
    have hD := hc.2 D List.mem_cons_self
    have hn := List.nodup_cons.1 hc.1
    refine ⟨by simp, .inl ⟨D, _, rfl, run_takeDeferred hD.2, ?_⟩⟩
    have hb := putObj_below (W := W) hD.1 hs (.deferred none)
    exact leave_all n Ds _ ⟨hn.2, fun E hE => ⟨(hc.2 E (List.mem_cons_of_mem _ hE)).1, (putObj_other (fun e => hn.1 (by rw [← e]; exact hE)) _).trans (hc.2 E (List.mem_cons_of_mem _ hE)).2⟩⟩ (Nat.le_trans hs hb.size) (fun W' hW' => h W' (hb.trans hW'))
theorem blk_own {W W' : World} {p : Nat} {t : TypeId} {cs : Array Value} {row : Option Nat} (h : Blk W p t cs) (hg : W.grownBy W' row) (hr : ∀ r, row = some r → ∃ o : Obj, W.heap[r]? = some o ∧ o.isCells = false) : Blk W' p t cs :=
  (hg.block p h.lt (fun e => by
    obtain ⟨o, ho, hc⟩ := hr p e.symm
    rw [show W.heap[p]? = _ from h] at ho
    cases ho
    cases hc)).trans h
theorem own_keep8 {β : Type} {w3 : World} {p : Nat} {t : TypeId} {cs : Array Value} (hp : p < w3.heap.size) : OwnFrom w3.heap.size (fun (_ : β) W => Keep (· ≠ p) w3 W ∧ Blk W p t cs) := fun s A B row hs hg hr =>
  ⟨⟨hg.os.trans hs.1.os, hg.tape.trans hs.1.tape, hg.output.trans hs.1.output, Nat.le_trans hs.1.size hg.size, fun k hk hf => (hg.block k (Nat.lt_of_lt_of_le hk hs.1.size) (fun e => by have := (hr k e.symm).1; omega)).trans (hs.1.block k hk hf)⟩, blk_own hs.2 hg (fun r e => (hr r e).2)⟩
theorem cfIter (args : Array Value) (W : World) : (callFunc 107 args).run Tryz.prog W = .ok (.enter 107 args) W := cf_enter Tryz.func107 (by kernel_rfl) (by kernel_rfl) args W
theorem msgsOfT (W : World) (f : CF CM) (a1 a2 : Option Addr) (c1 c2 : Nat) : Calls Tryz.prog 75 #[.agg #[.int .i64 f.num, .slice a1 f.ks.length c1, .slice a2 f.vs.length c2]] W fun e w' => e = .returned (.func (.func 107) #[] #[.pointer (some ⟨W.heap.size, 0, none⟩)]) ∧ w' = W.alloc (.cells #[.int .i64 f.num, .slice a1 f.ks.length c1, .slice a2 f.vs.length c2] 29) := by
  go_enter Tryz.func75, Tryz.ntmps75
  go_wp2
  go_ret
  exact ⟨rfl, rfl⟩
theorem walkT {Z : Nat → Prop} {Ok : World → Prop} {In : TV → Prop} {Q : Nat → TV → CM → Prop} {hold : TV → CM → Bool} {blw : TV → CF CM → TV} {fh fb : FuncId} {ch cb : Array Value} (H : WkH Z Ok In Q hold blw fh fb ch cb) : ∀ d, WkAt Z Ok In Q hold blw fh fb ch cb d
  | 0 => fun _ _ _ _ _ _ _ h => h.elim
  | d + 1 => fun w x cs m hok hin hQ h => by
    have IH := hid (walkT H d)
    obtain ⟨ka, kc, va, vc, rfl, g, q, l1, -⟩ := msg_open h
    obtain ⟨ta1, tc1, ta2, tc2, ta3, tc3, ta4, tc4, e1, e2, e3, e4⟩ := H.sh x hin
    have ec : cTV x = [.string (strOfNums x.t.name), .bool x.t.enum, .slice ta1 x.t.fs.length tc1, .slice ta2 x.t.os.length tc2, .slice ta3 x.t.ss.length tc3, .slice ta4 x.t.rs.length tc4] := by unfold cTV; rw [e1, e2, e3, e4]
    have HH := hid (fun W (hW : Below w.heap.size w W) => H.h W x (d + 1) _ m (H.kept hok hW) hin hQ (h.kept hW))
    have HBL := hid (fun (W : World) (cs : List Value) (f : CF CM) (hm : hold x m = true) (hf : f ∈ m.fs) (hW : Below w.heap.size w W) hx => H.b W x d cs m f (H.kept hok hW) hin hQ hm hf hx)
    have hcf1 := H.eh
    have hcf2 := H.eb
    have G := hid g
    have m1 : (m.fs.length : Int) ≤ 9223372036854775807 := by omega
    have HX : Hid (walkB hold blw (d + 1) x m = (hold x m && m.fs.all (fun f => (allM f).all (walkB hold blw d (blw x f))))) := hid rfl
    rw [ec] at HH HBL ⊢
    generalize walkB hold blw (d + 1) x m = res at *
    clear h g q e1 e2 e3 e4
    refine callsIn_wide (n := 3) |>.1 ?_
    refine callsIn_of_wp_marks Tryz.func37 rfl trivial ?_ rfl
    simp only [Tryz.ntmps37, List.size_toArray, List.length_cons, List.length_nil, Nat.reduceAdd, Nat.reduceSub, Array.replicate_succ, Array.replicate_zero, List.push_toArray, List.append_toArray, List.nil_append, List.cons_append]
    gi_wp2_with fail
    refine ⟨trivial, (callsIn_wide.2 (HH.out _ (by exact blBy))).mono ?_⟩
    rintro e w1 ⟨rfl, hbx⟩
    have B4 : Blk w1 w.heap.size 66 #[.string (strOfNums x.t.name), .bool x.t.enum, .slice ta1 x.t.fs.length tc1, .slice ta2 x.t.os.length tc2, .slice ta3 x.t.ss.length tc3, .slice ta4 x.t.rs.length tc4] := (((((Blk.new _ _ _).kept (below_alloc _)).kept (below_alloc _)).kept (below_alloc _)).kept (below_alloc _)).kept hbx
    have B5 : Blk w1 (w.heap.size + 1) 35 #[.slice ka m.fs.length kc, .slice va m.us.length vc] := ((((Blk.newAt (by simp)).kept (below_alloc _)).kept (below_alloc _)).kept (below_alloc _)).kept hbx
    have B6 : Blk w1 (w.heap.size + 1 + 1) 83 #[.func (.func fh) ch #[]] := (((Blk.newAt (by simp)).kept (below_alloc _)).kept (below_alloc _)).kept hbx
    have B7 : Blk w1 (w.heap.size + 1 + 1 + 1) 73 #[.func (.func fb) cb #[]] := ((Blk.newAt (by simp)).kept (below_alloc _)).kept hbx
    have B8 : Blk w1 (w.heap.size + 1 + 1 + 1 + 1) 4 #[.bool false] := (Blk.newAt (by simp)).kept hbx
    have hbz : Hid (Below w.heap.size w w1) := hid (bl_then (by exact blBy) hbx)
    have hs1 : w.heap.size + 5 ≤ w1.heap.size := by have := hbx.size; simpa using this
    clear hbx HH
    have x8 := B8.cellF
    have y8 := B8.frz
    have z8 := B8.lt
    have HIN := hid (fun f => H.i x d m f hin hQ)
    have HQS := hid (fun f z => H.q x d m f z hin hQ)
    cases hq : hold x m with
    | false =>
      rw [hq, Bool.false_and] at HX
      gi_wp2
      exact ⟨.bool false, by simp [results, Tryz.results37, go_sem, x8, y8, z8], by rw [HX.out], by have := hbz.out; exact blBy⟩
    | true =>
      rw [hq, Bool.true_and] at HX
      have x5 := B5.cellF
      have z5 := B5.lt
      gi_wp2
      refine wpIn_loop (fun a W => ∃ (j : Nat) (Ds : List Nat) (u10 u11 u12 u22 u23 u24 u25 u26 u27 u28 u29 u30 u31 u32 u33 u34 u35 u36 u37 u38 : Value), a = { tmps := #[.agg #[.string (strOfNums x.t.name), .bool x.t.enum, .slice ta1 x.t.fs.length tc1, .slice ta2 x.t.os.length tc2, .slice ta3 x.t.ss.length tc3, .slice ta4 x.t.rs.length tc4], .agg #[.slice ka m.fs.length kc, .slice va m.us.length vc], .func (.func fh) ch #[], .func (.func fb) cb #[], .pointer (some ⟨w.heap.size, 0, none⟩), .pointer (some ⟨w.heap.size + 1, 0, none⟩), .pointer (some ⟨w.heap.size + 1 + 1, 0, none⟩), .pointer (some ⟨w.heap.size + 1 + 1 + 1, 0, none⟩), .pointer (some ⟨w.heap.size + 1 + 1 + 1 + 1, 0, none⟩), undef, u10, u11, u12, .func (.func fh) ch #[], .agg #[.string (strOfNums x.t.name), .bool x.t.enum, .slice ta1 x.t.fs.length tc1, .slice ta2 x.t.os.length tc2, .slice ta3 x.t.ss.length tc3, .slice ta4 x.t.rs.length tc4], .agg #[.slice ka m.fs.length kc, .slice va m.us.length vc], .bool true, .bool false, .pointer (some ⟨w.heap.size + 1, 0, none⟩), .slice ka m.fs.length kc, .int .i64 (m.fs.length : Int), .int .i64 (j : Int), u22, u23, u24, u25, u26, u27, u28, u29, u30, u31, u32, u33, u34, u35, u36, u37, u38], defers := Ds.map mkD } ∧ j ≤ m.fs.length ∧ Hid (res = (m.fs.drop j).all (fun f => (allM f).all (walkB hold blw d (blw x f)))) ∧ Hid (Coll W w1.heap.size Ds) ∧ Hid (Below w1.heap.size w1 W)) (fun a _ => m.fs.length - (intOf (a.tmps.getD 21 undef)).toNat) ⟨0, [], undef, undef, undef, undef, undef, undef, undef, undef, undef, undef, undef, undef, undef, undef, undef, undef, undef, undef, undef, undef, rfl, by omega, HX, hid (Coll.nil _ _), hid (Below.refl _ _)⟩ ?_
      rintro a W ⟨j, Ds, u10, u11, u12, u22, u23, u24, u25, u26, u27, u28, u29, u30, u31, u32, u33, u34, u35, u36, u37, u38, rfl, hj, HA, HC, hb⟩
      have B4' := B4.kept hb.out
      have B6' := B6.kept hb.out
      have B7' := B7.kept hb.out
      have B8' := B8.kept hb.out
      have x4 := B4'.cellF
      have z4 := B4'.lt
      have x6 := B6'.cellF
      have z6 := B6'.lt
      have x7 := B7'.cellF
      have z7 := B7'.lt
      clear x5 z5 x8 y8 z8
      by_cases hlt : j < m.fs.length
      · have k2 : (j : Int) < (m.fs.length : Int) := by omega
        obtain ⟨b1, o1, pa, pc, qa, qc, rfl, -, hb1, c0, c1, c2, he⟩ := fls_at (G.out.kept (below_trans hbz.out hb.out)) hlt
        have HD : Hid ((m.fs.drop j).all (fun f => (allM f).all (walkB hold blw d (blw x f))) = ((allM m.fs[j]).all (walkB hold blw d (blw x m.fs[j])) && (m.fs.drop (j + 1)).all (fun f => (allM f).all (walkB hold blw d (blw x f))))) := hid (by rw [List.drop_eq_getElem_cons hlt, List.all_cons])
        have HME := List.getElem_mem hlt
        have HIF := hid (HIN.out _ hq HME)
        have HQF := hid (fun z => HQS.out _ z hq HME)
        have HBF := hid (fun W' (hW' : Below w.heap.size w W') => HBL.out W' [.int .i64 m.fs[j].num, .slice pa m.fs[j].ks.length pc, .slice qa m.fs[j].vs.length qc] m.fs[j] hq HME hW')
        have HFE := hid he
        clear HME he
        generalize m.fs[j] = f at *
        generalize blw x f = y at *
        obtain ⟨sa1, sc1, sa2, sc2, sa3, sc3, sa4, sc4, e1, e2, e3, e4⟩ := H.sh y HIF.out
        have ecy : cTV y = [.string (strOfNums y.t.name), .bool y.t.enum, .slice sa1 y.t.fs.length sc1, .slice sa2 y.t.os.length sc2, .slice sa3 y.t.ss.length sc3, .slice sa4 y.t.rs.length sc4] := by unfold cTV; rw [e1, e2, e3, e4]
        rw [ecy] at HBF
        clear e1 e2 e3 e4
        have hbw : Hid (Below w.heap.size w W) := hid (below_trans hbz.out hb.out)
        gi_wp2_with fail
        refine ⟨trivial, (callsIn_wide.2 (HBF.out _ (by have := hbw.out; exact blBy) (HFE.out.kept (by exact blBy)))).mono ?_⟩
        rintro e w2 ⟨rfl, hbx⟩
        have B10 : Blk w2 W.heap.size 29 #[.int .i64 f.num, .slice pa f.ks.length pc, .slice qa f.vs.length qc] := (Blk.new _ _ _).kept hbx
        have hb2 : Hid (Below W.heap.size W w2) := hid (below_trans (below_alloc _) hbx)
        clear hbx HBF
        have x10 := B10.cellF
        have z10 := B10.lt
        gi_wp2_with fail
        refine ⟨trivial, (callsIn_wide.2 (msgsOfT _ f pa qa pc qc)).mono ?_⟩
        rintro e w3 ⟨rfl, hw3⟩
        have B11 : Blk w3 w2.heap.size 66 #[.string (strOfNums y.t.name), .bool y.t.enum, .slice sa1 y.t.fs.length sc1, .slice sa2 y.t.os.length sc2, .slice sa3 y.t.ss.length sc3, .slice sa4 y.t.rs.length sc4] := by rw [hw3]; exact (Blk.new _ _ _).kept (below_alloc _)
        have Bq : Blk w3 (w2.heap.size + 1) 29 #[.int .i64 f.num, .slice pa f.ks.length pc, .slice qa f.vs.length qc] := by rw [hw3]; exact Blk.newAt (by simp)
        have hb3 : Hid (Below W.heap.size W w3) := hid (by rw [hw3]; have := hb2.out; exact blBy)
        have hsq : w2.heap.size + 2 ≤ w3.heap.size := by rw [hw3]; simp
        have esq : (w2.alloc (.cells #[.string (strOfNums y.t.name), .bool y.t.enum, .slice sa1 y.t.fs.length sc1, .slice sa2 y.t.os.length sc2, .slice sa3 y.t.ss.length sc3, .slice sa4 y.t.rs.length sc4] 66)).heap.size = w2.heap.size + 1 := by simp
        rw [esq]
        clear hw3 esq x10 z10 B10 c0 c1 c2 hb1 x4 z4 x6 z6 x7 z7
        obtain ⟨_, _, _, _, ef, g1, g2, -⟩ := fld_open (HFE.out.kept hb3.out)
        simp only [List.cons.injEq, Value.slice.injEq, true_and, and_true] at ef
        obtain ⟨⟨rfl, rfl⟩, rfl, rfl⟩ := ef
        have B6q := B6'.kept hb3.out
        have B7q := B7'.kept hb3.out
        have B8q := B8'.kept hb3.out
        have hbq : Hid (Below w.heap.size w w3) := hid (below_trans hbw.out hb3.out)
        have hbq1 : Hid (Below w1.heap.size w1 w3) := hid (below_trans hb.out hb3.out)
        have HCq := hid (HC.out.kept hb3.out)
        have hs2 : W.heap.size ≤ w2.heap.size := hb2.out.size
        have hsW := hb.out.size
        clear B4' B6' B7' B8' hb2 HFE
        gi_wp2_with fail
        refine wpIn_rangeFunc_ownH rfl (by omega) (gf := 107) (lb := #[.pointer (some ⟨w2.heap.size + 1, 0, none⟩)]) rfl trivial cfIter (msgsOf_in w3 Z d (3 - 1) (by omega) (w2.heap.size + 1) f pa qa pc qc Bq g1 g2) belowK_t (belowK_b (Nat.le_refl _)) (Below.refl _ _) (fun _ => rfl)
          (fun pre W' => (∀ z ∈ pre, walkB hold blw d y z.1.2 = true) ∧ Below w3.heap.size w3 W')
          (fun c pre W' => (c = .ret ∧ ∃ z ∈ pre, walkB hold blw d y z.1.2 = false) ∧ (Keep (· ≠ w.heap.size + 1 + 1 + 1 + 1) w3 W' ∧ Blk W' (w.heap.size + 1 + 1 + 1 + 1) 4 #[.bool false]))
          (OwnFrom.and (ownFrom_pure _ _) (ownFrom_below (Nat.le_refl _) (Nat.le_refl _)))
          (fun c => OwnFrom.and (ownFrom_pure _ _) (own_keep8 (by omega)))
          ⟨(fun z hz => by cases hz), Below.refl _ _⟩
          (fun z a' W' => ∃ Bx, w3.heap.size ≤ Bx ∧ Blk W' Bx 35 z.1.1.toArray ∧ a' = { tmps := #[.agg #[.string (strOfNums x.t.name), .bool x.t.enum, .slice ta1 x.t.fs.length tc1, .slice ta2 x.t.os.length tc2, .slice ta3 x.t.ss.length tc3, .slice ta4 x.t.rs.length tc4], .agg #[.slice (some ⟨b1, o1, none⟩) m.fs.length kc, .slice va m.us.length vc], .func (.func fh) ch #[], .func (.func fb) cb #[], .pointer (some ⟨w.heap.size, 0, none⟩), .pointer (some ⟨w.heap.size + 1, 0, none⟩), .pointer (some ⟨w.heap.size + 1 + 1, 0, none⟩), .pointer (some ⟨w.heap.size + 1 + 1 + 1, 0, none⟩), .pointer (some ⟨w.heap.size + 1 + 1 + 1 + 1, 0, none⟩), undef, .pointer (some ⟨W.heap.size, 0, none⟩), .pointer (some ⟨w2.heap.size, 0, none⟩), .pointer (some ⟨Bx, 0, none⟩), .func (.func fh) ch #[], .agg #[.string (strOfNums x.t.name), .bool x.t.enum, .slice ta1 x.t.fs.length tc1, .slice ta2 x.t.os.length tc2, .slice ta3 x.t.ss.length tc3, .slice ta4 x.t.rs.length tc4], .agg #[.slice (some ⟨b1, o1, none⟩) m.fs.length kc, .slice va m.us.length vc], .bool true, .bool false, .pointer (some ⟨w.heap.size + 1, 0, none⟩), .slice (some ⟨b1, o1, none⟩) m.fs.length kc, .int .i64 (m.fs.length : Int), .int .i64 (j : Int), .bool true, .pointer (some ⟨b1, o1 + j * 3, none⟩), .agg #[.int .i64 f.num, .slice pa f.ks.length pc, .slice qa f.vs.length qc], .func (.func fb) cb #[], .agg #[.string (strOfNums x.t.name), .bool x.t.enum, .slice ta1 x.t.fs.length tc1, .slice ta2 x.t.os.length tc2, .slice ta3 x.t.ss.length tc3, .slice ta4 x.t.rs.length tc4], .agg #[.int .i64 f.num, .slice pa f.ks.length pc, .slice qa f.vs.length qc], .agg #[.string (strOfNums y.t.name), .bool y.t.enum, .slice sa1 y.t.fs.length sc1, .slice sa2 y.t.os.length sc2, .slice sa3 y.t.ss.length sc3, .slice sa4 y.t.rs.length sc4], .agg #[.int .i64 f.num, .slice pa f.ks.length pc, .slice qa f.vs.length qc], .func (.func 107) #[] #[.pointer (some ⟨w2.heap.size + 1, 0, none⟩)], .agg z.1.1.toArray, u32, u33, u34, u35, u36, u37, u38], defers := [] })
          (fun z a' _ X Y row hs hg hr => by obtain ⟨Bx, h1, h2, h3⟩ := hs; exact ⟨Bx, h1, blk_own h2 hg (fun r e => (hr r e).2), h3⟩)
          ?assign ?body ?done ?stop
        case assign =>
          rintro l pre z W' K ⟨hall, hB1⟩ hK
          obtain ⟨⟨zc, zm⟩, hz⟩ := z
          have hz' : MsgE w3 Z d zc zm := hz.1
          obtain ⟨fa, fc, ua, uc, e0, -⟩ := msg_openD hz'
          subst e0
          dsimp only [encM] at hK ⊢
          gi_wp2
          exact hK _ _ ((KeepsOthers.alloc _ _).from _) ((Below.refl _ W').alloc hB1.size _) ⟨hall, hB1.alloc hB1.size _⟩ ⟨W'.heap.size, hB1.size, Blk.new _ _ _, rfl⟩
        case body =>
          rintro l pre z a' W' hl ⟨r, hr⟩ ⟨hall, hB1⟩ ⟨Bx, hBx, bX, rfl⟩ hlt2
          obtain ⟨⟨zc, zm⟩, hz⟩ := z
          have hz' : MsgE w3 Z d zc zm := hz.1
          have HZ := hid hz'
          have HQZ := hid (HQF.out zm hz.2)
          obtain ⟨fa, fc, ua, uc, e0, -⟩ := msg_openD hz'
          subst e0
          dsimp only at bX
          have C6 := B6q.kept hB1
          have C7 := B7q.kept hB1
          have C8 := B8q.kept hB1
          have C11 := B11.kept hB1
          have x6 := C6.cellF
          have z6 := C6.lt
          have x7 := C7.cellF
          have z7 := C7.lt
          have x11 := C11.cellF
          have z11 := C11.lt
          have xX := bX.cellF
          have zX := bX.lt
          have HIW := hid (IH.out W' y [.slice fa zm.fs.length fc, .slice ua zm.us.length uc] zm (H.kept hok (below_trans hbq.out hB1)) HIF.out HQZ.out (HZ.out.kept hB1))
          rw [ecy] at HIW
          have HB1 := hid hB1
          have HALL := hid hall
          clear hB1 hall hlt2
          gi_wp2_with fail
          refine ⟨trivial, (CallsIn.inRound l (callsIn_wide.2 HIW.out)).mono ?_⟩
          rintro e W4 ⟨rfl, hb4⟩
          have HB4 := hid hb4
          have D8 := C8.kept hb4
          have x8 := D8.cellF
          have y8 := D8.frz
          have z8 := D8.lt
          have HKF : Hid (KeepsFrom w3.heap.size W' W4) := hid ⟨hb4.size, fun k o _ hk _ => (hb4.block k (Array.getElem?_eq_some_iff.1 hk).1).trans hk⟩
          have hsB := HB1.out.size
          clear hb4 HIW x6 z6 x7 z7 x11 z11 xX zX
          cases hr2 : walkB hold blw d y zm with
          | true =>
            have HR2 := hid hr2
            gi_wp2
            refine ⟨HKF.out, HB4.out.mono hsB, ?_, HB1.out.trans (HB4.out.mono hsB)⟩
            intro z' hz2
            rcases List.mem_append.1 hz2 with h | h
            · exact HALL.out z' h
            · rw [List.mem_singleton.1 h]; exact HR2.out
          | false =>
            have HR2 := hid hr2
            gi_wp2
            refine ⟨HKF.out.trans ((KeepsOthers.setCell _ _ _).from _), ⟨rfl, _, List.mem_append_right _ (List.mem_singleton.2 rfl), HR2.out⟩, ?_, (D8.set 0 (.bool false)).is rfl⟩
            exact ((Keep.ofBelow HB1.out).trans (Keep.ofBelow HB4.out)).trans (Keep.setCell _ _ _ (by simp))
        case done =>
          rintro D xs W' hD hS ⟨hall, hB1⟩ hK
          have HB1 := hid hB1
          have HK := hid hK
          have HR : Hid (res = (m.fs.drop (j + 1)).all (fun f => (allM f).all (walkB hold blw d (blw x f)))) := hid (by
            rw [HA.out, HD.out, ← hS]
            rw [show ((xs.map fun z => z.1.2).all (walkB hold blw d y)) = true from by
              rw [List.all_map, List.all_eq_true]
              exact fun z hz => hall z hz]
            rfl)
          have hsw := hB1.size
          have HCd : Hid (Coll W' w1.heap.size (D :: Ds)) := hid ((HCq.out.kept hB1).cons (by omega) (fun h => by have := HCq.out.lt h; omega) hK)
          have hbd : Hid (Below w1.heap.size w1 W') := hid (hbq1.out.trans (hB1.mono hbq1.out.size))
          clear hB1 hall hS hK
          gi_wp2
          exact ⟨⟨j + 1, D :: Ds, _, _, _, _, _, _, _, _, _, _, _, _, _, _, _, _, _, _, _, _, rfl, by omega, HR, HCd, hbd⟩, by simp [intOf]; omega⟩
        case stop =>
          rintro D c pre W' hD hSp ⟨⟨rfl, hex⟩, hKp, hB8⟩ hK
          have HKP := hid hKp
          have HB8 := hid hB8
          have HK := hid hK
          have HR : Hid (res = false) := hid (by
            rw [HA.out, HD.out]
            rw [show ((allM f).all (walkB hold blw d y)) = false from by
              rw [List.all_eq_false]
              obtain ⟨z, hz, hw⟩ := hex
              exact ⟨z.1.2, hSp.subset (List.mem_map.2 ⟨z, hz, rfl⟩), by rw [hw]; simp⟩]
            rfl)
          have hsw := hKp.size
          have HCs : Hid (Coll W' w1.heap.size (D :: Ds)) := hid ((HCq.out.keep (fun E hE => hKp.block E (HCq.out.lt hE) (by have := (HCq.out.2 E hE).1; omega))).cons (by omega) (fun h => by have := HCq.out.lt h; omega) hK)
          have hbs : Hid (Below w.heap.size w W') := hid (hbq.out.trans (hKp.below hbq.out.size (fun k hk => by omega)))
          clear hex hKp hB8 hK
          gi_wp2
          refine leave_all (base := w1.heap.size) 3 (D :: Ds) _ HCs.out (by omega) (fun W'' hW'' => ?_)
          have B9 : Blk W'' (w.heap.size + 1 + 1 + 1 + 1) 4 #[.bool false] := (hW''.block _ (by omega)).trans HB8.out
          have x9 := B9.cellF
          have y9 := B9.frz
          have z9 := B9.lt
          exact ⟨.bool false, by simp [results, Tryz.results37, go_sem, x9, y9, z9], by rw [HR.out], hbs.out.trans (hW''.mono (by omega))⟩
      · have k2 : ¬ (j : Int) < (m.fs.length : Int) := by omega
        have HE : Hid (res = true) := hid (by rw [HA.out, List.drop_of_length_le (by omega)]; rfl)
        have x8 := B8'.cellF
        have y8 := B8'.frz
        have z8 := B8'.lt
        have HB8 := hid (B8'.set 0 (.bool true))
        have hbw : Hid (Below w.heap.size w W) := hid (below_trans hbz.out hb.out)
        have hsW := hb.out.size
        gi_wp2
        refine leave_all (base := w1.heap.size) 3 Ds _ (HC.out.keep (fun D hD => Below.heap_setCell _ _ _ _ (by have := (HC.out.2 D hD).1; simp; omega))) (by simpa [World.setCell] using hsW) (fun W' hW' => ?_)
        have B9 : Blk W' (w.heap.size + 1 + 1 + 1 + 1) 4 #[.bool true] := (hW'.block _ (by omega)).trans HB8.out
        have x9 := B9.cellF
        have y9 := B9.frz
        have z9 := B9.lt
        exact ⟨.bool true, by simp [results, Tryz.results37, go_sem, x9, y9, z9], by rw [HE.out], Below.trans (by have := hbw.out; exact blBy) (hW'.mono (by omega))⟩
end Go.Proofs.YtnfdlnelfnigdaaGreatDoor
