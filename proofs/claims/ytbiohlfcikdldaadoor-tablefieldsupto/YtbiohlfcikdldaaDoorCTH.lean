/-
  A field by itself, whole.
  Rows of fields, symbols, ranges, types, cell by cell; numbers that rise.
  All fields by themselves; the members of oneofs.
  Each oneof has a member.
  No two are the same: a map's size.
  No two are the same: what the program answers.
  Rows of one's own that grow.
  The symbols of an enum.
-/
import Derived.Test.YtbiohlfcikdldaaDoorCTA
import Derived.Maps.OwnSet
import Derived.Laws.AppendOwnNone
import Derived.Deep.CutRange
namespace Go.Proofs.YtbiohlfcikdldaaDoor
open Go.RowKit
set_option maxRecDepth 1000000
set_option linter.unusedVariables false
set_option linter.unusedSimpArgs false
set_option maxHeartbeats 600000
def fldB (l : List TV) (k : Nat) (f : FT) : Bool := decide (1 ≤ f.kind ∧ f.kind ≤ 17) && (refB l f && (labB f && (oneB k f && keyB f)))
theorem isGoodFieldT (f : FT) (w : World) (l : List TV) (ta : Option Addr) (tc : Nat) (t : TT) (fa oa sa ra : Option Addr) (fc oc sc rc : Nat) (h : TbR w (.slice ta l.length tc) l) (hl : t.os.length ≤ 9223372036854775807) : Calls Tryd.prog 75 #[.agg #[.slice ta l.length tc], .agg #[.string (strOfNums t.name), .bool t.enum, .slice fa t.fs.length fc, .slice oa t.os.length oc, .slice sa t.ss.length sc, .slice ra t.rs.length rc], .agg #[.string (strOfNums f.name), .int .i64 f.num, .int .i64 f.kind, .int .i64 f.ref, .int .i64 f.lab, .int .i64 f.one, .int .i64 f.key]] w fun e w' => e = .returned (.bool (fldB l t.os.length f)) ∧ Below w.heap.size w w' := by
  have HX : Hid (fldB l t.os.length f = (decide (1 ≤ f.kind ∧ f.kind ≤ 17) && (refB l f && (labB f && (oneB t.os.length f && keyB f))))) := hid rfl
  have HT := hid h
  clear h
  generalize hr0 : fldB l t.os.length f = res at *
  clear hr0
  by_cases h1 : 1 ≤ f.kind
  case neg =>
    replace HX := hid (show res = false by rw [HX.out]; simp; omega)
    go_enter Tryd.func75, Tryd.ntmps75
    go_wp2
    go_ret
    exact ⟨ret_bool HX.out.symm, by exact blBy⟩
  by_cases h2 : f.kind ≤ 17
  case neg =>
    replace HX := hid (show res = false by rw [HX.out]; simp; omega)
    go_enter Tryd.func75, Tryd.ntmps75
    go_wp2
    go_ret
    exact ⟨ret_bool HX.out.symm, by exact blBy⟩
  have HD : Hid (decide (1 ≤ f.kind ∧ f.kind ≤ 17) = true) := hid (by simp; omega)
  have hb0 : Hid (Below w.heap.size w w) := hid (Below.refl _ _)
  go_enter Tryd.func75, Tryd.ntmps75
  go_wp2_with fail
  refine (hasGoodRefT f _ l ta tc (HT.out.kept (by have := hb0.out; exact blBy))).mono ?_
  rintro e w1 ⟨rfl, hb1⟩
  have Ba : Blk w1 (w.heap.size) 24 #[.slice ta l.length tc] := Blk.kept ((((Blk.newAt (by simp)).kept (below_alloc _)).kept (below_alloc _)).is (by first | rfl | simp)) hb1
  have Bb : Blk w1 (w.heap.size + 1) 62 #[.string (strOfNums t.name), .bool t.enum, .slice fa t.fs.length fc, .slice oa t.os.length oc, .slice sa t.ss.length sc, .slice ra t.rs.length rc] := Blk.kept (((Blk.newAt (by simp)).kept (below_alloc _)).is (by first | rfl | simp)) hb1
  have Bc : Blk w1 (w.heap.size + 1 + 1) 39 #[.string (strOfNums f.name), .int .i64 f.num, .int .i64 f.kind, .int .i64 f.ref, .int .i64 f.lab, .int .i64 f.one, .int .i64 f.key] := Blk.kept ((Blk.newAt (by simp)).is (by first | rfl | simp)) hb1
  have hs1 := hb1.size
  try simp at hs1
  have xa := Ba.cellF
  have ya := Ba.frz
  have za : w.heap.size < w1.heap.size := by omega
  have xb := Bb.cellF
  have yb := Bb.frz
  have zb : w.heap.size + 1 < w1.heap.size := by omega
  have xc := Bc.cellF
  have yc := Bc.frz
  have zc : w.heap.size + 1 + 1 < w1.heap.size := by omega
  replace hb1 : Hid (Below w.heap.size w w1) := hid (bl_then (by have := hb0.out; exact blBy) hb1)
  cases q1 : refB l f with
  | false =>
    go_wp2
    go_ret
    exact ⟨ret_bool (by rw [HX.out, HD.out]; simp [q1]), by have := hb1.out; exact blBy⟩
  | true =>
  go_wp2_with fail
  refine (hasGoodLabelT f _).mono ?_
  rintro e w2 ⟨rfl, hb2⟩
  replace Ba : Blk w2 (w.heap.size) 24 #[.slice ta l.length tc] := Blk.kept (Ba.is (by first | rfl | simp)) hb2
  replace Bb : Blk w2 (w.heap.size + 1) 62 #[.string (strOfNums t.name), .bool t.enum, .slice fa t.fs.length fc, .slice oa t.os.length oc, .slice sa t.ss.length sc, .slice ra t.rs.length rc] := Blk.kept (Bb.is (by first | rfl | simp)) hb2
  replace Bc : Blk w2 (w.heap.size + 1 + 1) 39 #[.string (strOfNums f.name), .int .i64 f.num, .int .i64 f.kind, .int .i64 f.ref, .int .i64 f.lab, .int .i64 f.one, .int .i64 f.key] := Blk.kept (Bc.is (by first | rfl | simp)) hb2
  clear xa ya xb yb xc yc
  have hs2 := hb2.size
  try simp at hs2
  have xa := Ba.cellF
  have ya := Ba.frz
  replace za : w.heap.size < w2.heap.size := by omega
  have xb := Bb.cellF
  have yb := Bb.frz
  replace zb : w.heap.size + 1 < w2.heap.size := by omega
  have xc := Bc.cellF
  have yc := Bc.frz
  replace zc : w.heap.size + 1 + 1 < w2.heap.size := by omega
  replace hb2 : Hid (Below w.heap.size w w2) := hid (bl_then (by have := hb1.out; exact blBy) hb2)
  cases q2 : labB f with
  | false =>
    go_wp2
    go_ret
    exact ⟨ret_bool (by rw [HX.out, HD.out]; simp [q1, q2]), by have := hb2.out; exact blBy⟩
  | true =>
  go_wp2_with fail
  refine (hasGoodOneofT f _ t fa oa sa ra fc oc sc rc hl).mono ?_
  rintro e w3 ⟨rfl, hb3⟩
  replace Ba : Blk w3 (w.heap.size) 24 #[.slice ta l.length tc] := Blk.kept (Ba.is (by first | rfl | simp)) hb3
  replace Bb : Blk w3 (w.heap.size + 1) 62 #[.string (strOfNums t.name), .bool t.enum, .slice fa t.fs.length fc, .slice oa t.os.length oc, .slice sa t.ss.length sc, .slice ra t.rs.length rc] := Blk.kept (Bb.is (by first | rfl | simp)) hb3
  replace Bc : Blk w3 (w.heap.size + 1 + 1) 39 #[.string (strOfNums f.name), .int .i64 f.num, .int .i64 f.kind, .int .i64 f.ref, .int .i64 f.lab, .int .i64 f.one, .int .i64 f.key] := Blk.kept (Bc.is (by first | rfl | simp)) hb3
  clear xa ya xb yb xc yc
  have hs3 := hb3.size
  try simp at hs3
  have xa := Ba.cellF
  have ya := Ba.frz
  replace za : w.heap.size < w3.heap.size := by omega
  have xb := Bb.cellF
  have yb := Bb.frz
  replace zb : w.heap.size + 1 < w3.heap.size := by omega
  have xc := Bc.cellF
  have yc := Bc.frz
  replace zc : w.heap.size + 1 + 1 < w3.heap.size := by omega
  replace hb3 : Hid (Below w.heap.size w w3) := hid (bl_then (by have := hb2.out; exact blBy) hb3)
  cases q3 : oneB t.os.length f with
  | false =>
    go_wp2
    go_ret
    exact ⟨ret_bool (by rw [HX.out, HD.out]; simp [q1, q2, q3]), by have := hb3.out; exact blBy⟩
  | true =>
  go_wp2_with fail
  refine (hasGoodKeyT f _).mono ?_
  rintro e w4 ⟨rfl, hb4⟩
  replace Ba : Blk w4 (w.heap.size) 24 #[.slice ta l.length tc] := Blk.kept (Ba.is (by first | rfl | simp)) hb4
  replace Bb : Blk w4 (w.heap.size + 1) 62 #[.string (strOfNums t.name), .bool t.enum, .slice fa t.fs.length fc, .slice oa t.os.length oc, .slice sa t.ss.length sc, .slice ra t.rs.length rc] := Blk.kept (Bb.is (by first | rfl | simp)) hb4
  replace Bc : Blk w4 (w.heap.size + 1 + 1) 39 #[.string (strOfNums f.name), .int .i64 f.num, .int .i64 f.kind, .int .i64 f.ref, .int .i64 f.lab, .int .i64 f.one, .int .i64 f.key] := Blk.kept (Bc.is (by first | rfl | simp)) hb4
  clear xa ya xb yb xc yc
  have hs4 := hb4.size
  try simp at hs4
  have xa := Ba.cellF
  have ya := Ba.frz
  replace za : w.heap.size < w4.heap.size := by omega
  have xb := Bb.cellF
  have yb := Bb.frz
  replace zb : w.heap.size + 1 < w4.heap.size := by omega
  have xc := Bc.cellF
  have yc := Bc.frz
  replace zc : w.heap.size + 1 + 1 < w4.heap.size := by omega
  replace hb4 : Hid (Below w.heap.size w w4) := hid (bl_then (by have := hb3.out; exact blBy) hb4)
  go_wp2
  go_ret
  exact ⟨ret_bool (by rw [HX.out, HD.out]; simp [q1, q2, q3]), by have := hb4.out; exact blBy⟩
end Go.Proofs.YtbiohlfcikdldaaDoor
namespace Go.Proofs.YtbiohlfcikdldaaDoor
open Go.RowKit
set_option maxRecDepth 1000000
set_option linter.unusedVariables false
set_option linter.unusedSimpArgs false
set_option maxHeartbeats 600000
theorem row7 {w : World} {l : List FT} {a : Option Addr} {n c : Nat} (h : RowS w AnyZ 7 (.slice a n c) l.length (l.flatMap cFT)) {j : Nat} (hj : j < l.length) : ∃ b o, a = some ⟨b, o, none⟩ ∧ b < w.heap.size ∧ w.cell? ⟨b, o + j * 7, none⟩ = some (.string (strOfNums l[j].name)) ∧ w.cell? ⟨b, o + j * 7 + 1, none⟩ = some (.int .i64 l[j].num) ∧ w.cell? ⟨b, o + j * 7 + 2, none⟩ = some (.int .i64 l[j].kind) ∧ w.cell? ⟨b, o + j * 7 + 3, none⟩ = some (.int .i64 l[j].ref) ∧ w.cell? ⟨b, o + j * 7 + 4, none⟩ = some (.int .i64 l[j].lab) ∧ w.cell? ⟨b, o + j * 7 + 5, none⟩ = some (.int .i64 l[j].one) ∧ w.cell? ⟨b, o + j * 7 + 6, none⟩ = some (.int .i64 l[j].key) := by
  obtain ⟨b, o, e, hc⟩ := rowAt (g := cFT) (fun _ => rfl) h (i := j) (x := l[j]) (by simp [hj])
  exact ⟨b, o, e, World.block_lt_of_cell? _ _ (hc 0 _ rfl), hc 0 _ rfl, hc 1 _ rfl, hc 2 _ rfl, hc 3 _ rfl, hc 4 _ rfl, hc 5 _ rfl, hc 6 _ rfl⟩
theorem rowY {w : World} {l : List SY} {a : Option Addr} {n c : Nat} (h : RowS w AnyZ 2 (.slice a n c) l.length (l.flatMap cSY)) {j : Nat} (hj : j < l.length) : ∃ b o, a = some ⟨b, o, none⟩ ∧ b < w.heap.size ∧ w.cell? ⟨b, o + j * 2, none⟩ = some (.string (strOfNums l[j].name)) ∧ w.cell? ⟨b, o + j * 2 + 1, none⟩ = some (.int .i64 l[j].num) := by
  obtain ⟨b, o, e, hc⟩ := rowAt (g := cSY) (fun _ => rfl) h (i := j) (x := l[j]) (by simp [hj])
  exact ⟨b, o, e, World.block_lt_of_cell? _ _ (hc 0 _ rfl), hc 0 _ rfl, hc 1 _ rfl⟩
theorem rowG {w : World} {l : List RG} {a : Option Addr} {n c : Nat} (h : RowS w AnyZ 2 (.slice a n c) l.length (l.flatMap cRG)) {j : Nat} (hj : j < l.length) : ∃ b o, a = some ⟨b, o, none⟩ ∧ b < w.heap.size ∧ w.cell? ⟨b, o + j * 2, none⟩ = some (.int .i64 l[j].lo) ∧ w.cell? ⟨b, o + j * 2 + 1, none⟩ = some (.int .i64 l[j].hi) := by
  obtain ⟨b, o, e, hc⟩ := rowAt (g := cRG) (fun _ => rfl) h (i := j) (x := l[j]) (by simp [hj])
  exact ⟨b, o, e, World.block_lt_of_cell? _ _ (hc 0 _ rfl), hc 0 _ rfl, hc 1 _ rfl⟩
theorem row6 {w : World} {l : List TV} {a : Option Addr} {n c : Nat} (h : RowS w AnyZ 6 (.slice a n c) l.length (l.flatMap cTV)) {j : Nat} (hj : j < l.length) : ∃ b o, a = some ⟨b, o, none⟩ ∧ b < w.heap.size ∧ w.cell? ⟨b, o + j * 6, none⟩ = some (.string (strOfNums l[j].t.name)) ∧ w.cell? ⟨b, o + j * 6 + 1, none⟩ = some (.bool l[j].t.enum) ∧ w.cell? ⟨b, o + j * 6 + 2, none⟩ = some (l[j].f) ∧ w.cell? ⟨b, o + j * 6 + 3, none⟩ = some (l[j].o) ∧ w.cell? ⟨b, o + j * 6 + 4, none⟩ = some (l[j].s) ∧ w.cell? ⟨b, o + j * 6 + 5, none⟩ = some (l[j].r) := by
  obtain ⟨b, o, e, hc⟩ := rowAt (g := cTV) (fun _ => rfl) h (i := j) (x := l[j]) (by simp [hj])
  exact ⟨b, o, e, World.block_lt_of_cell? _ _ (hc 0 _ rfl), hc 0 _ rfl, hc 1 _ rfl, hc 2 _ rfl, hc 3 _ rfl, hc 4 _ rfl, hc 5 _ rfl⟩
def riseA : List FT → Int → Bool
  | [], z => decide (z ≤ 536870911)
  | f :: r, z => if f.num ≤ z then false else riseA r f.num
def numAt (w : World) (r : Value) : Nat := match r with | .int _ n => n.toNat | _ => 0
theorem doRiseT (fs : List FT) (w : World) (a : Option Addr) (c : Nat) (h : RowS w AnyZ 7 (.slice a fs.length c) fs.length (fs.flatMap cFT)) : Calls Tryd.prog 77 #[.slice a fs.length c] w fun e w' => e = .returned (.bool (riseA fs 0)) ∧ Below w.heap.size w w' := by
  obtain ⟨_, _, e, hn⟩ := rowS_sl h
  clear e
  have h1 : (fs.length : Int) ≤ 9223372036854775807 := by omega
  have HR := hid h
  clear h
  go_enter Tryd.func77, Tryd.ntmps77
  go_wp2
  go_loopw [3, 8] (fun z r wr => ∃ (j : Nat) (q : Int), z = .int .i64 q ∧ r = .int .i64 j ∧ j ≤ fs.length ∧ Hid (riseA fs 0 = riseA (fs.drop j) q) ∧ Hid (Below w.heap.size w wr)) (fun z r wr => fs.length - numAt wr r)
  case atStart => exact ⟨0, 0, rfl, rfl, by omega, hid rfl, hid (Below.refl _ _)⟩
  case round =>
    obtain ⟨j, q, rfl, rfl, hj, hf, hb⟩ := hrel
    by_cases hlt : j < fs.length
    · have h2 : (j : Int) < (fs.length : Int) := by omega
      obtain ⟨b, o, rfl, hbl, c0, c1, c2, c3, c4, c5, c6⟩ := row7 (HR.out.kept hb.out) hlt
      have HST : Hid (riseA (fs.drop j) q = if fs[j].num ≤ q then false else riseA (fs.drop (j + 1)) fs[j].num) := hid (by rw [List.drop_eq_getElem_cons hlt, riseA])
      generalize fs[j] = f at *
      by_cases hq : f.num ≤ q
      · go_wp2
        go_ret
        exact ⟨ret_bool (by rw [hf.out, HST.out, if_pos hq]), by have := hb.out; exact blBy⟩
      · go_wp2
        exact ⟨⟨j + 1, f.num, rfl, by simp, by omega, hid (by rw [hf.out, HST.out, if_neg hq]), hid (by have := hb.out; exact blBy)⟩, by simp [numAt]; omega⟩
    · have h2 : ¬ (j : Int) < (fs.length : Int) := by omega
      have HE : Hid (riseA fs 0 = decide (q ≤ 536870911)) := hid (by rw [hf.out, List.drop_of_length_le (by omega)]; rfl)
      go_wp2
      go_ret
      exact ⟨ret_bool HE.out.symm, by have := hb.out; exact blBy⟩
end Go.Proofs.YtbiohlfcikdldaaDoor
namespace Go.Proofs.YtbiohlfcikdldaaDoor
open Go.RowKit
set_option maxRecDepth 1000000
set_option linter.unusedVariables false
set_option linter.unusedSimpArgs false
set_option maxHeartbeats 600000
theorem goodFn1 (f : FT) (w : World) (l : List TV) (ta : Option Addr) (tc p q : Nat) (t : TT) (fa oa sa ra : Option Addr) (fc oc sc rc : Nat) (h : TbR w (.slice ta l.length tc) l) (hl : t.os.length ≤ 9223372036854775807) (hp : Blk w p 24 #[.slice ta l.length tc]) (hq : Blk w q 62 #[.string (strOfNums t.name), .bool t.enum, .slice fa t.fs.length fc, .slice oa t.os.length oc, .slice sa t.ss.length sc, .slice ra t.rs.length rc]) : Calls Tryd.prog 74 #[.agg #[.string (strOfNums f.name), .int .i64 f.num, .int .i64 f.kind, .int .i64 f.ref, .int .i64 f.lab, .int .i64 f.one, .int .i64 f.key], .pointer (some ⟨p, 0, none⟩), .pointer (some ⟨q, 0, none⟩)] w fun e w' => e = .returned (.bool (!fldB l t.os.length f)) ∧ Below w.heap.size w w' := by
  have HT := hid h
  have xp := hp.cellF
  have xq := hq.cellF
  have zp := hp.lt
  have zq := hq.lt
  clear h hp hq
  go_enter Tryd.func74, Tryd.ntmps74
  go_wp2_with fail
  refine (isGoodFieldT f _ l ta tc t fa oa sa ra fc oc sc rc (HT.out.kept (by exact blBy)) hl).mono ?_
  rintro e w1 ⟨rfl, hb⟩
  go_wp2
  go_ret
  exact ⟨rfl, bl_then (by exact blBy) hb⟩
theorem idxGood (fs : List FT) (w : World) (a : Option Addr) (c p q : Nat) (P : FT → Bool) (h : RowS w AnyZ 7 (.slice a fs.length c) fs.length (fs.flatMap cFT))
    (hc : ∀ (f : FT) (W : World), Below w.heap.size w W → Calls Tryd.prog 74 #[.agg #[.string (strOfNums f.name), .int .i64 f.num, .int .i64 f.kind, .int .i64 f.ref, .int .i64 f.lab, .int .i64 f.one, .int .i64 f.key], .pointer (some ⟨p, 0, none⟩), .pointer (some ⟨q, 0, none⟩)] W fun e w' => e = .returned (.bool (P f)) ∧ Below W.heap.size W w') : Calls Tryd.prog 88 #[.slice a fs.length c, .func (.func 74) #[] #[.pointer (some ⟨p, 0, none⟩), .pointer (some ⟨q, 0, none⟩)]] w fun e w' => e = .returned (.int .i64 (fnd P fs 0)) ∧ Below w.heap.size w w' := by
  obtain ⟨_, _, e, hn⟩ := rowS_sl h
  clear e
  have h1 : (fs.length : Int) ≤ 9223372036854775807 := by omega
  have HR := hid h
  have HC := hid hc
  clear h hc
  go_enter Tryd.func88, Tryd.ntmps88
  go_wp2
  go_loopw [8] (fun r wr => ∃ j : Nat, r = .int .i64 j ∧ j ≤ fs.length ∧ Hid (fnd P fs 0 = fnd P (fs.drop j) j) ∧ Hid (Below w.heap.size w wr)) (fun r wr => fs.length - numAt wr r)
  case atStart => exact ⟨0, rfl, by omega, hid rfl, hid (Below.refl _ _)⟩
  case round =>
    obtain ⟨j, rfl, hj, hf, hb⟩ := hrel
    by_cases hlt : j < fs.length
    · have h2 : (j : Int) < (fs.length : Int) := by omega
      obtain ⟨b, o, rfl, hbl, c0, c1, c2, c3, c4, c5, c6⟩ := row7 (HR.out.kept hb.out) hlt
      have HST := hid (fnd_at (p := P) hlt)
      generalize fs[j] = f at *
      go_wp2_with fail
      refine (HC.out f wr hb.out).mono ?_
      rintro e w1 ⟨rfl, hb1⟩
      have HB1 := hid (bl_then hb.out hb1)
      clear hb1
      cases hq : P f with
      | true =>
        go_wp2
        go_ret
        exact ⟨ret_int (by rw [hf.out, HST.out, hq]; simp), HB1.out⟩
      | false =>
        go_wp2
        exact ⟨⟨j + 1, by simp, by omega, hid (by rw [hf.out, HST.out, hq]; simp), HB1⟩, by simp [numAt]; omega⟩
    · have h2 : ¬ (j : Int) < (fs.length : Int) := by omega
      have HE : Hid (fnd P fs 0 = -1) := hid (by rw [hf.out, List.drop_of_length_le (by omega)]; rfl)
      go_wp2
      go_ret
      exact ⟨ret_int (by rw [HE.out]), hb.out⟩
theorem idxGoodC (fs : List FT) (w : World) (a : Option Addr) (c p q : Nat) (P : FT → Bool) (h : RowS w AnyZ 7 (.slice a fs.length c) fs.length (fs.flatMap cFT))
    (hc : ∀ (f : FT) (W : World), Below w.heap.size w W → Calls Tryd.prog 74 #[.agg #[.string (strOfNums f.name), .int .i64 f.num, .int .i64 f.kind, .int .i64 f.ref, .int .i64 f.lab, .int .i64 f.one, .int .i64 f.key], .pointer (some ⟨p, 0, none⟩), .pointer (some ⟨q, 0, none⟩)] W fun e w' => e = .returned (.bool (P f)) ∧ Below W.heap.size W w') : Calls Tryd.prog 76 #[.slice a fs.length c, .func (.func 74) #[] #[.pointer (some ⟨p, 0, none⟩), .pointer (some ⟨q, 0, none⟩)]] w fun e w' => e = .returned (.bool (fs.any P)) ∧ Below w.heap.size w w' := by
  have HI := hid (idxGood fs w a c p q P h hc)
  have HX := hid (fnd_any P fs 0)
  clear h hc
  generalize fnd P fs 0 = k at *
  by_cases hk : 0 ≤ k
  · have hk2 : ¬ k < 0 := by omega
    go_enter Tryd.func76, Tryd.ntmps76
    go_wp2_with fail
    refine HI.out.mono ?_
    rintro e w1 ⟨rfl, hb⟩
    go_wp2
    go_ret
    exact ⟨ret_bool (by rw [← HX.out]; simp [hk]), hb⟩
  · have hk2 : k < 0 := by omega
    go_enter Tryd.func76, Tryd.ntmps76
    go_wp2_with fail
    refine HI.out.mono ?_
    rintro e w1 ⟨rfl, hb⟩
    go_wp2
    go_ret
    exact ⟨ret_bool (by rw [← HX.out]; try simp [hk]), hb⟩
theorem memFn1 (f : FT) (w : World) (p i : Nat) (hp : Blk w p 3 #[.int .i64 i]) : Calls Tryd.prog 99 #[.agg #[.string (strOfNums f.name), .int .i64 f.num, .int .i64 f.kind, .int .i64 f.ref, .int .i64 f.lab, .int .i64 f.one, .int .i64 f.key], .pointer (some ⟨p, 0, none⟩)] w fun e w' => e = .returned (.bool (decide (f.lab = 4) && decide (f.one = i))) ∧ Below w.heap.size w w' := by
  have xp := hp.cellF
  have zp := hp.lt
  clear hp
  by_cases h4 : f.lab = 4
  · have k4 : (f.lab == 4) = true := by simpa using h4
    have HD : Hid (decide (f.lab = 4) = true) := hid (by simpa using h4)
    replace h4 := hid h4
    go_enter Tryd.func99, Tryd.ntmps99
    go_wp2
    go_ret
    exact ⟨ret_bool (by rw [HD.out]; by_cases h : f.one = i <;> simp [h]), by exact blBy⟩
  · have k4 : (f.lab == 4) = false := by simpa using h4
    have HD : Hid (decide (f.lab = 4) = false) := hid (by simpa using h4)
    replace h4 := hid h4
    go_enter Tryd.func99, Tryd.ntmps99
    go_wp2
    go_ret
    exact ⟨ret_bool (by rw [HD.out]; rfl), by exact blBy⟩
theorem idxMem (fs : List FT) (w : World) (a : Option Addr) (c p : Nat) (P : FT → Bool) (h : RowS w AnyZ 7 (.slice a fs.length c) fs.length (fs.flatMap cFT))
    (hc : ∀ (f : FT) (W : World), Below w.heap.size w W → Calls Tryd.prog 99 #[.agg #[.string (strOfNums f.name), .int .i64 f.num, .int .i64 f.kind, .int .i64 f.ref, .int .i64 f.lab, .int .i64 f.one, .int .i64 f.key], .pointer (some ⟨p, 0, none⟩)] W fun e w' => e = .returned (.bool (P f)) ∧ Below W.heap.size W w') : Calls Tryd.prog 88 #[.slice a fs.length c, .func (.func 99) #[] #[.pointer (some ⟨p, 0, none⟩)]] w fun e w' => e = .returned (.int .i64 (fnd P fs 0)) ∧ Below w.heap.size w w' := by
  obtain ⟨_, _, e, hn⟩ := rowS_sl h
  clear e
  have h1 : (fs.length : Int) ≤ 9223372036854775807 := by omega
  have HR := hid h
  have HC := hid hc
  clear h hc
  go_enter Tryd.func88, Tryd.ntmps88
  go_wp2
  go_loopw [8] (fun r wr => ∃ j : Nat, r = .int .i64 j ∧ j ≤ fs.length ∧ Hid (fnd P fs 0 = fnd P (fs.drop j) j) ∧ Hid (Below w.heap.size w wr)) (fun r wr => fs.length - numAt wr r)
  case atStart => exact ⟨0, rfl, by omega, hid rfl, hid (Below.refl _ _)⟩
  case round =>
    obtain ⟨j, rfl, hj, hf, hb⟩ := hrel
    by_cases hlt : j < fs.length
    · have h2 : (j : Int) < (fs.length : Int) := by omega
      obtain ⟨b, o, rfl, hbl, c0, c1, c2, c3, c4, c5, c6⟩ := row7 (HR.out.kept hb.out) hlt
      have HST := hid (fnd_at (p := P) hlt)
      generalize fs[j] = f at *
      go_wp2_with fail
      refine (HC.out f wr hb.out).mono ?_
      rintro e w1 ⟨rfl, hb1⟩
      have HB1 := hid (bl_then hb.out hb1)
      clear hb1
      cases hq : P f with
      | true =>
        go_wp2
        go_ret
        exact ⟨ret_int (by rw [hf.out, HST.out, hq]; simp), HB1.out⟩
      | false =>
        go_wp2
        exact ⟨⟨j + 1, by simp, by omega, hid (by rw [hf.out, HST.out, hq]; simp), HB1⟩, by simp [numAt]; omega⟩
    · have h2 : ¬ (j : Int) < (fs.length : Int) := by omega
      have HE : Hid (fnd P fs 0 = -1) := hid (by rw [hf.out, List.drop_of_length_le (by omega)]; rfl)
      go_wp2
      go_ret
      exact ⟨ret_int (by rw [HE.out]), hb.out⟩
theorem idxMemC (fs : List FT) (w : World) (a : Option Addr) (c p : Nat) (P : FT → Bool) (h : RowS w AnyZ 7 (.slice a fs.length c) fs.length (fs.flatMap cFT))
    (hc : ∀ (f : FT) (W : World), Below w.heap.size w W → Calls Tryd.prog 99 #[.agg #[.string (strOfNums f.name), .int .i64 f.num, .int .i64 f.kind, .int .i64 f.ref, .int .i64 f.lab, .int .i64 f.one, .int .i64 f.key], .pointer (some ⟨p, 0, none⟩)] W fun e w' => e = .returned (.bool (P f)) ∧ Below W.heap.size W w') : Calls Tryd.prog 76 #[.slice a fs.length c, .func (.func 99) #[] #[.pointer (some ⟨p, 0, none⟩)]] w fun e w' => e = .returned (.bool (fs.any P)) ∧ Below w.heap.size w w' := by
  have HI := hid (idxMem fs w a c p P h hc)
  have HX := hid (fnd_any P fs 0)
  clear h hc
  generalize fnd P fs 0 = k at *
  by_cases hk : 0 ≤ k
  · have hk2 : ¬ k < 0 := by omega
    go_enter Tryd.func76, Tryd.ntmps76
    go_wp2_with fail
    refine HI.out.mono ?_
    rintro e w1 ⟨rfl, hb⟩
    go_wp2
    go_ret
    exact ⟨ret_bool (by rw [← HX.out]; simp [hk]), hb⟩
  · have hk2 : k < 0 := by omega
    go_enter Tryd.func76, Tryd.ntmps76
    go_wp2_with fail
    refine HI.out.mono ?_
    rintro e w1 ⟨rfl, hb⟩
    go_wp2
    go_ret
    exact ⟨ret_bool (by rw [← HX.out]; try simp [hk]), hb⟩
end Go.Proofs.YtbiohlfcikdldaaDoor
namespace Go.Proofs.YtbiohlfcikdldaaDoor
open Go.RowKit
set_option maxRecDepth 1000000
set_option linter.unusedVariables false
set_option linter.unusedSimpArgs false
set_option maxHeartbeats 600000
def memP (i : Nat) (f : FT) : Bool := decide (f.lab = 4) && decide (f.one = i)
def memA (fs : List FT) : Nat → Nat → Bool
  | 0, _ => true
  | n + 1, i => fs.any (memP i) && memA fs n (i + 1)
theorem haveMembersT (w : World) (t : TT) (fa oa sa ra : Option Addr) (fc oc sc rc : Nat) (h : RowS w AnyZ 7 (.slice fa t.fs.length fc) t.fs.length (t.fs.flatMap cFT)) (hl : t.os.length ≤ 9223372036854775807) : Calls Tryd.prog 79 #[.agg #[.string (strOfNums t.name), .bool t.enum, .slice fa t.fs.length fc, .slice oa t.os.length oc, .slice sa t.ss.length sc, .slice ra t.rs.length rc]] w fun e w' => e = .returned (.bool (memA t.fs t.os.length 0)) ∧ Below w.heap.size w w' := by
  have h1 : (t.os.length : Int) ≤ 9223372036854775807 := by omega
  have HR := hid h
  clear h
  go_enter Tryd.func79, Tryd.ntmps79
  go_wp2
  go_loopw [7] (fun r wr => ∃ j : Nat, r = .int .i64 j ∧ j ≤ t.os.length ∧ Hid (memA t.fs t.os.length 0 = memA t.fs (t.os.length - j) j) ∧ Hid (Below w.heap.size w wr) ∧ Hid (Blk wr w.heap.size 62 #[.string (strOfNums t.name), .bool t.enum, .slice fa t.fs.length fc, .slice oa t.os.length oc, .slice sa t.ss.length sc, .slice ra t.rs.length rc])) (fun r wr => t.os.length - numAt wr r)
  case atStart => exact ⟨0, rfl, by omega, hid rfl, hid (by exact blBy), hid (Blk.newAt rfl)⟩
  case round =>
    obtain ⟨j, rfl, hj, hf, hb, BX⟩ := hrel
    have xb := BX.out.cellF
    have zb := BX.out.lt
    by_cases hlt : j < t.os.length
    · have h2 : (j : Int) < (t.os.length : Int) := by omega
      have HST : Hid (memA t.fs (t.os.length - j) j = (t.fs.any (memP j) && memA t.fs (t.os.length - (j + 1)) (j + 1))) := hid (by rw [show t.os.length - j = (t.os.length - (j + 1)) + 1 by omega]; rfl)
      go_wp2_with fail
      refine (idxMemC t.fs _ fa fc wr.heap.size (memP j) (HR.out.kept (by have := hb.out; exact blBy)) (fun f W hW => memFn1 f W wr.heap.size j ((Blk.newAt rfl).kept hW))).mono ?_
      rintro e w1 ⟨rfl, hb1⟩
      have HB1 : Hid (Below w.heap.size w w1) := hid (bl_then (by have := hb.out; exact blBy) hb1)
      have BX1 := hid ((BX.out.kept (below_alloc _)).kept hb1)
      clear hb1
      cases hq : t.fs.any (memP j) with
      | true =>
        go_wp2
        exact ⟨⟨j + 1, by simp, by omega, hid (by rw [hf.out, HST.out, hq]; simp), HB1, BX1⟩, by simp [numAt]; omega⟩
      | false =>
        go_wp2
        go_ret
        exact ⟨ret_bool (by rw [hf.out, HST.out, hq]; simp), HB1.out⟩
    · have h2 : ¬ (j : Int) < (t.os.length : Int) := by omega
      have HE : Hid (memA t.fs t.os.length 0 = true) := hid (by rw [hf.out, show t.os.length - j = 0 by omega]; rfl)
      go_wp2
      go_ret
      exact ⟨ret_bool HE.out.symm, hb.out⟩
end Go.Proofs.YtbiohlfcikdldaaDoor
namespace Go.Proofs.YtbiohlfcikdldaaDoor
open Go.RowKit
set_option maxRecDepth 1000000
set_option linter.unusedVariables false
set_option linter.unusedSimpArgs false
set_option maxHeartbeats 600000
open Go.Maps Go.WideAt in
theorem add_le : ∀ (xs acc : List Lit), (xs.foldl addKey acc).length ≤ acc.length + xs.length
  | [], acc => by simp
  | x :: r, acc => by
    rw [List.foldl_cons]
    refine Nat.le_trans (add_le r _) ?_
    unfold addKey
    split <;> simp <;> omega
open Go.Maps Go.WideAt in
theorem add_nodup : ∀ (xs acc : List Lit), (∀ x ∈ acc, IsKeyLit x) → (∀ x ∈ xs, IsKeyLit x) → acc.Nodup → ((xs.foldl addKey acc).length = acc.length + xs.length ↔ (acc ++ xs).Nodup)
  | [], acc, _, _, h => by simp [h]
  | x :: r, acc, ha, hx, h => by
    rw [List.foldl_cons]
    by_cases hm : x ∈ acc
    · have hany : acc.any (fun y => y.sameKey x) = true := List.any_eq_true.2 ⟨x, hm, by
        exact sameKey_self (hx x (by simp))⟩
      have e : addKey acc x = acc := by unfold addKey; rw [if_pos hany]
      rw [e]
      have := add_le r acc
      constructor
      · intro h1; simp at h1; omega
      · intro h1; exact absurd rfl ((List.nodup_append.1 h1).2.2 x hm x (by simp))
    · have hany : ¬ acc.any (fun y => y.sameKey x) = true := fun q => by
        obtain ⟨y, hy, hs⟩ := List.any_eq_true.1 q
        by_cases e : y = x
        · exact hm (e ▸ hy)
        · rw [sameKey_ne e] at hs; cases hs
      have e : addKey acc x = acc ++ [x] := by unfold addKey; rw [if_neg hany]
      rw [e]
      have ih := add_nodup r (acc ++ [x]) (fun y hy => by rcases List.mem_append.1 hy with q | q; exact ha y q; simp at q; subst q; exact hx y (by simp)) (fun y hy => hx y (by simp [hy])) (by
        rw [List.nodup_append]
        exact ⟨h, by simp, fun a ha' b hb' => by simp at hb'; subst hb'; exact fun e => hm (e ▸ ha')⟩)
      rw [show (acc ++ [x]).length + r.length = acc.length + (x :: r).length by simp; omega] at ih
      rw [ih]
      simp
end Go.Proofs.YtbiohlfcikdldaaDoor
namespace Go.Proofs.YtbiohlfcikdldaaDoor
open Go.RowKit
set_option maxRecDepth 1000000
set_option linter.unusedVariables false
set_option linter.unusedSimpArgs false
set_option maxHeartbeats 600000
def litS (x : List Int) : Lit := .string (strOfNums x).data.toList
def litI (x : Int) : Lit := .int .i64 x
def cI64 (x : Int) : List Value := [.int .i64 x]
def I64 (x : Int) : Prop := -9223372036854775808 ≤ x ∧ x ≤ 9223372036854775807
theorem grown_below {w w' : World} {B b : Nat} (h : w.grownBy w' (some b)) (hb : B ≤ b) (hB : B ≤ w.heap.size) : Below B w w' := ⟨h.os, h.tape, h.output, h.size, fun k hk => h.block k (Nat.lt_of_lt_of_le hk hB) (by simp; omega)⟩
theorem below_grown {w w' : World} (h : Below w.heap.size w w') : w.grownBy w' none := ⟨h.os, h.tape, h.output, h.size, fun k hk _ => h.block k hk⟩
theorem run_makeMapN {P : Program} (t : TypeId) (k : IntKind) (n : Int) (w : World) {ki e : TypeId} (ht : P.underlying t = some (.map ki e)) : (Instr.makeMap t (some (.int k n))).run P w = .ok (.map (some w.heap.size)) (w.alloc (.map #[] 0)) := by
  simp [Instr.makeMap, run_underlying ht, asInt, asIntOf, Result.andThen]
/-- No two are the same. -/
def dfB (xs : List Lit) : Bool := decide ((xs.foldl Go.Maps.addKey []).length = xs.length)
theorem dfB_iff (xs : List Lit) (h : ∀ x ∈ xs, WideAt.IsKeyLit x) : dfB xs = true ↔ xs.Nodup := by
  have := add_nodup xs [] (by simp) h List.nodup_nil
  unfold dfB
  simpa using this
theorem dfB_size (xs : List Lit) (h : ∀ x ∈ xs, WideAt.IsKeyLit x) : ((Go.Maps.size (Go.Maps.setOf (.agg [] : DataW Unit) xs) : Int) == (xs.length : Int)) = dfB xs := by
  rw [Go.Maps.size_setOf _ xs h]
  unfold dfB
  by_cases e : (xs.foldl Go.Maps.addKey []).length = xs.length
  · simp [e]
  · simp [e]; omega
theorem areDiffS (ns : List (List Int)) (w : World) (a : Option Addr) (c : Nat) (h : RowS w AnyZ 1 (.slice a ns.length c) ns.length (ns.flatMap cN)) (ht : ∀ x ∈ ns, TxA x) : Calls Tryd.prog 72 #[.slice a ns.length c] w fun e w' => e = .returned (.bool (dfB (ns.map litS))) ∧ Below w.heap.size w w' := by
  obtain ⟨_, _, e, hn⟩ := rowS_sl h
  clear e
  have h1 : (ns.length : Int) ≤ 9223372036854775807 := by omega
  have h0 : ¬ (ns.length : Int) < 0 := by omega
  have HR := hid h
  have HT := hid ht
  have HZ : Hid (((Go.Maps.size (Go.Maps.setOf (.agg [] : DataW Unit) (ns.map litS)) : Int) == (ns.length : Int)) = dfB (ns.map litS)) := hid (by have := dfB_size (ns.map litS) (fun x hx => by obtain ⟨y, _, rfl⟩ := List.mem_map.1 hx; trivial); rw [List.length_map] at this; exact this)
  clear h ht
  have hmk := fun W => run_makeMapN (P := Tryd.prog) 122 .i64 (ns.length : Int) W Tryd.underlying122
  go_enter Tryd.func72, Tryd.ntmps72
  go_wp2
  clear hmk
  go_loopw [11] (fun r wr => ∃ j : Nat, r = .int .i64 j ∧ j ≤ ns.length ∧ Hid (wr.ownsMap (H := Unit) Tryd.prog 9 unitElem w.heap.size j (Go.Maps.setOf (.agg []) ((ns.take j).map litS))) ∧ Hid (Below w.heap.size w wr)) (fun r wr => ns.length - numAt wr r)
  case atStart => exact ⟨0, rfl, by omega, hid (World.ownsMap_made _ _ _ _), hid (by exact blBy)⟩
  case round =>
    obtain ⟨j, rfl, hj, hown, hb⟩ := hrel
    by_cases hlt : j < ns.length
    · have h2 : (j : Int) < (ns.length : Int) := by omega
      obtain ⟨b, o, rfl, hc⟩ := rowAt (g := cN) (fun _ => rfl) (HR.out.kept hb.out) (i := j) (x := ns[j]) (by simp [hlt])
      have c0 : wr.cell? ⟨b, o + j, none⟩ = some (.string (strOfNums ns[j])) := by have := hc 0 _ rfl; simpa using this
      have hbl : b < wr.heap.size := World.block_lt_of_cell? _ _ c0
      obtain ⟨hx1, hx2⟩ := HT.out _ (List.getElem_mem hlt)
      have hkey : keyOf Tryd.prog 9 (.string (strOfNums ns[j])) = some (litS ns[j]) := Go.WideMaps.keyOf_string_mk Tryd.underlying9 (by rw [strOfNums_size]; exact hx2)
      have HTK : Hid ((ns.take (j + 1)).map litS = (ns.take j).map litS ++ [litS ns[j]]) := hid (by rw [List.take_succ_eq_append_getElem hlt, List.map_append]; rfl)
      obtain ⟨w1, hrun, hown1, hgr⟩ := hown.out.update (val := .agg #[]) (Go.Maps.string_keyed Tryd.underlying9) Tryd.underlying122 (by unfold maxLen; omega) hkey unitElem_mk
      have HRUN := hid hrun
      have HO1 := hid hown1
      have HB1 : Hid (Below w.heap.size w w1) := hid (hb.out.trans (grown_below hgr (Nat.le_refl _) hb.out.size))
      clear hrun hown1 hgr hx1 hx2 hc hkey
      generalize ns[j] = x at *
      have hr := HRUN.out
      go_wp2
      exact ⟨⟨j + 1, by simp, by omega, hid (by rw [HTK.out, Go.Maps.setOf_snoc]; exact HO1.out), HB1⟩, by simp [numAt]; omega⟩
    · have h2 : ¬ (j : Int) < (ns.length : Int) := by omega
      have e1 : ns.take j = ns := List.take_of_length_le (by omega)
      have hlen := hown.out.len (t := 122) Tryd.underlying122 3
      rw [e1] at hlen
      have hzz := HZ.out
      go_wp2
      go_ret
      exact ⟨rfl, hb.out⟩
theorem areDiffI (ns : List Int) (w : World) (a : Option Addr) (c : Nat) (h : RowS w AnyZ 1 (.slice a ns.length c) ns.length (ns.flatMap cI64)) (ht : ∀ x ∈ ns, I64 x) : Calls Tryd.prog 73 #[.slice a ns.length c] w fun e w' => e = .returned (.bool (dfB (ns.map litI))) ∧ Below w.heap.size w w' := by
  obtain ⟨_, _, e, hn⟩ := rowS_sl h
  clear e
  have h1 : (ns.length : Int) ≤ 9223372036854775807 := by omega
  have h0 : ¬ (ns.length : Int) < 0 := by omega
  have HR := hid h
  have HT := hid ht
  have HZ : Hid (((Go.Maps.size (Go.Maps.setOf (.agg [] : DataW Unit) (ns.map litI)) : Int) == (ns.length : Int)) = dfB (ns.map litI)) := hid (by have := dfB_size (ns.map litI) (fun x hx => by obtain ⟨y, _, rfl⟩ := List.mem_map.1 hx; trivial); rw [List.length_map] at this; exact this)
  clear h ht
  have hmk := fun W => run_makeMapN (P := Tryd.prog) 124 .i64 (ns.length : Int) W Tryd.underlying124
  go_enter Tryd.func73, Tryd.ntmps73
  go_wp2
  clear hmk
  go_loopw [11] (fun r wr => ∃ j : Nat, r = .int .i64 j ∧ j ≤ ns.length ∧ Hid (wr.ownsMap (H := Unit) Tryd.prog 3 unitElem w.heap.size j (Go.Maps.setOf (.agg []) ((ns.take j).map litI))) ∧ Hid (Below w.heap.size w wr)) (fun r wr => ns.length - numAt wr r)
  case atStart => exact ⟨0, rfl, by omega, hid (World.ownsMap_made _ _ _ _), hid (by exact blBy)⟩
  case round =>
    obtain ⟨j, rfl, hj, hown, hb⟩ := hrel
    by_cases hlt : j < ns.length
    · have h2 : (j : Int) < (ns.length : Int) := by omega
      obtain ⟨b, o, rfl, hc⟩ := rowAt (g := cI64) (fun _ => rfl) (HR.out.kept hb.out) (i := j) (x := ns[j]) (by simp [hlt])
      have c0 : wr.cell? ⟨b, o + j, none⟩ = some (.int .i64 ns[j]) := by have := hc 0 _ rfl; simpa using this
      have hbl : b < wr.heap.size := World.block_lt_of_cell? _ _ c0
      obtain ⟨hx1, hx2⟩ := HT.out _ (List.getElem_mem hlt)
      have hkey : keyOf Tryd.prog 3 (.int .i64 ns[j]) = some (litI ns[j]) := Go.Maps.keyOf_int_mk Tryd.underlying3 (by simp [Lit.wf, IntKind.min, IntKind.max, IntKind.signed, IntKind.bits]; omega)
      have HTK : Hid ((ns.take (j + 1)).map litI = (ns.take j).map litI ++ [litI ns[j]]) := hid (by rw [List.take_succ_eq_append_getElem hlt, List.map_append]; rfl)
      obtain ⟨w1, hrun, hown1, hgr⟩ := hown.out.update (val := .agg #[]) (Go.Maps.int_keyed Tryd.underlying3) Tryd.underlying124 (by unfold maxLen; omega) hkey unitElem_mk
      have HRUN := hid hrun
      have HO1 := hid hown1
      have HB1 : Hid (Below w.heap.size w w1) := hid (hb.out.trans (grown_below hgr (Nat.le_refl _) hb.out.size))
      clear hrun hown1 hgr hx1 hx2 hc hkey
      generalize ns[j] = x at *
      have hr := HRUN.out
      go_wp2
      exact ⟨⟨j + 1, by simp, by omega, hid (by rw [HTK.out, Go.Maps.setOf_snoc]; exact HO1.out), HB1⟩, by simp [numAt]; omega⟩
    · have h2 : ¬ (j : Int) < (ns.length : Int) := by omega
      have e1 : ns.take j = ns := List.take_of_length_le (by omega)
      have hlen := hown.out.len (t := 124) Tryd.underlying124 3
      rw [e1] at hlen
      have hzz := HZ.out
      go_wp2
      go_ret
      exact ⟨rfl, hb.out⟩
end Go.Proofs.YtbiohlfcikdldaaDoor
namespace Go.Proofs.YtbiohlfcikdldaaDoor
open Go.RowKit
set_option maxRecDepth 1000000
set_option linter.unusedVariables false
set_option linter.unusedSimpArgs false
set_option maxHeartbeats 1000000
/-- From w to w' the slice v became v': every old block but v's own is as it was, and v' lies in v's block or in a new one. -/
structure Grow (w w' : World) (v v' : Value) : Prop where
  os : w'.os = w.os
  tape : w'.tape = w.tape
  output : w'.output = w.output
  size : w.heap.size ≤ w'.heap.size
  block : ∀ k, k < w.heap.size → v.ownBlock ≠ some k → w'.heap[k]? = w.heap[k]?
  own : v'.ownBlock = v.ownBlock ∨ ∀ k, v'.ownBlock = some k → w.heap.size ≤ k
theorem Grow.refl (w : World) (v : Value) : Grow w w v v := ⟨rfl, rfl, rfl, Nat.le_refl _, fun _ _ _ => rfl, .inl rfl⟩
theorem Grow.trans {w w1 w2 : World} {v v1 v2 : Value} (h : Grow w w1 v v1) (g : Grow w1 w2 v1 v2) : Grow w w2 v v2 := by
  refine ⟨g.os.trans h.os, g.tape.trans h.tape, g.output.trans h.output, Nat.le_trans h.size g.size, fun k hk hv => ?_, ?_⟩
  · rw [g.block k (Nat.lt_of_lt_of_le hk h.size) ?_, h.block k hk hv]
    intro e
    rcases h.own with h1 | h1
    · exact hv (h1.symm.trans e)
    · have := h1 k e; omega
  · rcases g.own with g1 | g1
    · rcases h.own with h1 | h1
      · exact .inl (g1.trans h1)
      · exact .inr fun k hk => h1 k (g1.symm.trans hk)
    · exact .inr fun k hk => Nat.le_trans h.size (g1 k hk)
theorem Grow.ofBelow {w w' : World} {v : Value} (h : Below w.heap.size w w') : Grow w w' v v :=
  ⟨h.os, h.tape, h.output, h.size, fun k hk _ => h.block k hk, .inl rfl⟩
theorem Grow.alloc {w w' : World} {v v' : Value} (h : Grow w w' v v') (o : Obj) : Grow w (w'.alloc o) v v' := h.trans (Grow.ofBelow (below_alloc o))
/-- What lies below B stays, where v lies from B on. -/
theorem Grow.below {w w' : World} {v v' : Value} {B : Nat} (h : Grow w w' v v') (hB : B ≤ w.heap.size) (hv : ∀ k, v.ownBlock = some k → B ≤ k) : Below B w w' :=
  ⟨h.os, h.tape, h.output, h.size, fun k hk => h.block k (by omega) (fun e => by have := hv k e; omega)⟩
theorem run_append_mine {P : Program} (w : World) (base : Nat) (t ty e : TypeId) (i : TypeInfo) (z : Value) (size bytes : Nat) (ht : P.underlying t = some (.slice e)) (hi : P.info? e = some i) (hz : i.zero = some z)
    (hsize : i.size = size) (hby : i.bytes = bytes) (hzs : z.cells.size = size) (hsz : 0 < size)
    (v : Value) (n : Nat) (xs : List Value) (hown : w.ownsRow base e size v n xs)
    (a : Addr) (m c : Nat) (news : List Value) (hl : news.length = m * size) (hnews : ∀ j u, news[j]? = some u → w.cell? (a.add j) = some u) (h1 : ∀ u ∈ news, u.oneCell' = true)
    (h63 : n + m ≤ maxLen) (hbytes : (n + m) * bytes ≤ 140737488355328) (hbase : base ≤ w.heap.size) :
    ∃ v' w', (Builtin.append_ #[t, t] ty #[v, .slice (some a) m c]).run P w = .ok v' w' ∧ w'.ownsRow base e size v' (n + m) (xs ++ news) ∧ Grow w w' v v' := by
  obtain ⟨v', w', hr, ho, hg, hn⟩ := run_append_own (P := P) w base t ty e i z size bytes ht hi hz hsize hby hzs hsz v n xs hown a m c news hl hnews h1 h63 hbytes hbase
  refine ⟨v', w', hr, ho, hg.os, hg.tape, hg.output, hg.size, fun k hk hv => hg.block k hk (fun e => hv e.symm), ?_⟩
  have hown0 := hown
  rcases hown.2 with ⟨rfl, rfl⟩ | ⟨g, cap, cur, rfl, hbg, hgg, hnc, hcm, hcs, htake⟩
  · have hx : xs = [] := List.eq_nil_of_length_eq_zero (by simpa using hown.1)
    subst hx
    obtain ⟨v2, w2, hr2, ho2, _, _⟩ := run_append_own (P := P) w w.heap.size t ty e i z size bytes ht hi hz hsize hby hzs hsz _ 0 [] (World.ownsRow_nil _ _ _ _) a m c news hl hnews h1 h63 hbytes (Nat.le_refl _)
    rw [hr] at hr2
    cases hr2
    exact .inr fun k hk => (ho2.lt k hk).1
  · subst hsize
    subst hby
    by_cases hroom : n + m ≤ cap
    · have hfit : n * i.size + news.length ≤ cur.size := by rw [hl, hcs, ← Nat.add_mul]; exact Nat.mul_le_mul_right _ hroom
      have hr2 := run_append_room (P := P) w t ty e i ht hi g n cap cur hgg a m c news hl hnews h1 hroom hfit
      rw [hr] at hr2
      cases hr2
      exact .inl rfl
    · have holds : ∀ j u, xs[j]? = some u → w.cell? ((⟨g, 0, none⟩ : Addr).add j) = some u := hown.cells (g := g) rfl
      have hsmall : n + m ≤ 9223372036854775807 := by simp only [maxLen] at h63; omega
      have hr2 := run_append_grow (P := P) w t ty e i z ht hi hz ⟨g, 0, none⟩ n cap xs hown.1 holds a m c news hl hnews (by omega) (by omega) (growslice_fits (by omega) hbytes)
      rw [hr] at hr2
      cases hr2
      refine .inr fun k hk => ?_
      simp [Value.ownBlock] at hk
      omega
theorem own_kept {w w' : World} {base e size n : Nat} {v : Value} {xs : List Value} (h : w.ownsRow base e size v n xs) (hb : Below w.heap.size w w') : w'.ownsRow base e size v n xs :=
  h.kept (row := none) ⟨hb.os, hb.tape, hb.output, hb.size, fun k hk _ => hb.block k hk⟩ (by cases hv : v.ownBlock <;> simp)
theorem own_mono {w : World} {base base' e size n : Nat} {v : Value} {xs : List Value} (h : w.ownsRow base e size v n xs) (hb : base' ≤ base) : w.ownsRow base' e size v n xs := by
  refine ⟨h.1, h.2.imp id ?_⟩
  rintro ⟨g, cap, cur, h1, h2, h3⟩
  exact ⟨g, cap, cur, h1, Nat.le_trans hb h2, h3⟩
theorem own_shape {w : World} {base e size n : Nat} {v : Value} {xs : List Value} (h : w.ownsRow base e size v n xs) : ∃ a c, v = .slice a n c := by
  rcases h.2 with ⟨rfl, rfl⟩ | ⟨g, cap, cur, rfl, _⟩
  · exact ⟨none, 0, rfl⟩
  · exact ⟨_, _, rfl⟩
theorem Keep.ofGrow {f : Nat → Prop} {w w' : World} {v v' : Value} (g : Grow w w' v v') (hv : ∀ k, f k → v.ownBlock ≠ some k) : Keep f w w' := ⟨g.os, g.tape, g.output, g.size, fun k hk hf => g.block k hk (hv k hf)⟩
theorem own_keep {f : Nat → Prop} {w w' : World} {base e size n : Nat} {v : Value} {xs : List Value} (h : w.ownsRow base e size v n xs) (hv : ∀ k, v.ownBlock = some k → f k) (g : Keep f w w') : w'.ownsRow base e size v n xs := by
  refine ⟨h.1, ?_⟩
  rcases h.2 with hn | ⟨k, cap, cur, rfl, hb, hk, rest⟩
  · exact .inl hn
  · exact .inr ⟨k, cap, cur, rfl, hb, by rw [g.block k (Array.getElem?_eq_some_iff.1 hk).1 (hv k rfl)]; exact hk, rest⟩
theorem own_row {w : World} {base e size n : Nat} {v : Value} {fl : List Value} (h : w.ownsRow base e size v n fl) {Z : Nat → Prop} (hz : ∀ k, v.ownBlock = some k → Z k) : RowS w Z size v n fl := by
  have hl := h.1
  rcases h.2 with ⟨rfl, h0⟩ | ⟨g, cap, cur, rfl, hbg, hg, hnc, hcm, hcs, htake⟩
  · subst h0
    exact ⟨none, 0, rfl, hl, Nat.le_refl _, by omega, .inl ⟨rfl, fun _ => rfl⟩⟩
  · refine ⟨_, cap, rfl, hl, hnc, by unfold maxLen at hcm; omega, .inr ⟨g, 0, rfl, hz g rfl, fun j u hu => ?_⟩⟩
    have := h.cells (g := g) rfl j u hu
    have hadd : (⟨g, 0, none⟩ : Addr).add j = ⟨g, 0 + j, none⟩ := by unfold Addr.add; split <;> simp_all
    rwa [hadd] at this
theorem own_type {w : World} {base e size n k : Nat} {v : Value} {fl : List Value} (h : w.ownsRow base e size v n fl) (hk : v.ownBlock = some k) : base ≤ k ∧ k < w.heap.size ∧ ∃ cur, w.heap[k]? = some (.cells cur e (0, 0)) := by
  rcases h.2 with ⟨rfl, h0⟩ | ⟨g, cap, cur, rfl, hbg, hg, hnc, hcm, hcs, htake⟩
  · simp [Value.ownBlock] at hk
  · simp [Value.ownBlock] at hk
    subst hk
    exact ⟨hbg, (Array.getElem?_eq_some_iff.1 hg).1, cur, hg⟩
theorem own_apart {w : World} {base e1 e2 s1 s2 n1 n2 : Nat} {v1 v2 : Value} {f1 f2 : List Value} (h1 : w.ownsRow base e1 s1 v1 n1 f1) (h2 : w.ownsRow base e2 s2 v2 n2 f2) (hne : e1 ≠ e2) {k : Nat} (hk : v1.ownBlock = some k) : v2.ownBlock ≠ some k := by
  intro hk2
  obtain ⟨_, _, c1, g1⟩ := own_type h1 hk
  obtain ⟨_, _, c2, g2⟩ := own_type h2 hk2
  rw [g1] at g2
  cases g2
  exact hne rfl
/-- One struct more, laid in a block of its own first. -/
theorem append_st (t ts : TypeId) (size bytes : Nat) (z : Value) (hts : Tryd.prog.underlying ts = some (.slice t)) (hinfo : (Tryd.prog.info? t).map (fun i => (i.zero, i.size, i.bytes)) = some (some z, size, bytes)) (hzs : z.cells.size = size) (h0 : 0 < size) (hby : bytes ≤ 400)
    (base : Nat) (v : Value) (n : Nat) (fl : List Value) (w : World) (cs : Array Value) (hcs : cs.size = size) (h1 : ∀ u ∈ cs.toList, u.oneCell' = true) (h : w.ownsRow base t size v n fl) (hb : base ≤ w.heap.size) (hn : n ≤ 4000000) :
    ∃ v' w', (Builtin.append_ #[ts, ts] ts #[v, .slice (some ⟨w.heap.size, 0, none⟩) 1 1]).run Tryd.prog (w.alloc (.cells cs t)) = .ok v' w' ∧ w'.ownsRow base t size v' (n + 1) (fl ++ cs.toList) ∧ Grow w w' v v' := by
  obtain ⟨i0, hi, hz0, hz1, hz2⟩ := info_parts hinfo
  have hcell : ∀ j u, cs.toList[j]? = some u → (w.alloc (.cells cs t)).cell? ((⟨w.heap.size, 0, none⟩ : Addr).add j) = some u := by
    intro j u hu
    have hadd : (⟨w.heap.size, 0, none⟩ : Addr).add j = ⟨w.heap.size, j, none⟩ := by unfold Addr.add; split <;> simp_all
    rw [hadd, World.cell?_alloc_at _ _ _ _ rfl]
    simpa using hu
  obtain ⟨v', w', hr, ho, hg⟩ := run_append_mine (P := Tryd.prog) (w.alloc (.cells cs t)) base ts ts t i0 z size bytes hts hi hz0 hz1 hz2 hzs h0 v n fl (h.alloc _) ⟨w.heap.size, 0, none⟩ 1 1 cs.toList (by simp [hcs]) hcell h1 (by unfold maxLen; omega) (Nat.le_trans (Nat.mul_le_mul (show n + 1 ≤ 4000001 by omega) hby) (by decide)) (by simp; omega)
  exact ⟨v', w', hr, ho, ((Grow.refl w v).alloc _).trans hg⟩
theorem wpList_append_ran {P : Program} {w : World} {ops : Array Oper} {rest : List Oper} {o : Oper} {a : Act} {Q : Exit → Act → World → Prop} (hgd : o.guard = none) (s x : Operand) (t ty : TypeId)
    (ho : o.op = .call { callee := .builtin .append, args := #[s, x], argTypes := #[t, t] }) (hty : o.type = ty) (v xv v' : Value) (w' : World) (hs : a.eval s = v) (hx : a.eval x = xv)
    (hr : (Builtin.append_ #[t, t] ty #[v, xv]).run P w = .ok v' w') (h : wpList P ops Q rest (a.put o.dst v') w') : wpList P ops Q (o :: rest) a w := by
  subst hty
  refine wpList_plain hgd fun K hK => ?_
  unfold Oper.wp
  simp [execOp, ho, resolve, invoke, builtin, hs, hx, hr, Result.andThen]
  exact hK _ _ h
theorem Tryd.infoSt : (Tryd.prog.info? 9).map (fun i => (i.zero, i.size, i.bytes)) = some (some (.string ⟨#[]⟩), 1, 16) := by kernel_rfl
theorem Tryd.infoIn : (Tryd.prog.info? 3).map (fun i => (i.zero, i.size, i.bytes)) = some (some (.int .i64 0), 1, 8) := by kernel_rfl
/-- One more. -/
theorem appendSt (base : Nat) (v : Value) (l : List (List Int)) (y : (List Int)) (w : World) (h : w.ownsRow base 9 1 v l.length (l.flatMap cN)) (hb : base ≤ w.heap.size) (hn : l.length ≤ 4000000) :
    ∃ a c w', Hid ((Builtin.append_ #[59, 59] 59 #[v, .slice (some ⟨w.heap.size, 0, none⟩) 1 1]).run Tryd.prog (w.alloc (.cells #[.string (strOfNums y)] 9)) = .ok (.slice a (l.length + 1) c) w') ∧ Hid (w'.ownsRow base 9 1 (.slice a (l.length + 1) c) (l ++ [y]).length ((l ++ [y]).flatMap cN)) ∧ Hid (Grow w w' v (.slice a (l.length + 1) c)) := by
  obtain ⟨v', w', h1, h2, h3⟩ := append_st 9 59 1 16 (.string ⟨#[]⟩) Tryd.underlying59 Tryd.infoSt rfl (by decide) (by decide) base v l.length (l.flatMap cN) w #[.string (strOfNums y)] rfl (fun u hu => by simp at hu; subst hu; rfl) h hb hn
  obtain ⟨a, c, rfl⟩ := own_shape h2
  exact ⟨a, c, w', hid h1, hid (by rw [List.flatMap_append, List.length_append]; exact h2), hid h3⟩
/-- One more. -/
theorem appendIn (base : Nat) (v : Value) (l : List Int) (y : Int) (w : World) (h : w.ownsRow base 3 1 v l.length (l.flatMap cI64)) (hb : base ≤ w.heap.size) (hn : l.length ≤ 4000000) :
    ∃ a c w', Hid ((Builtin.append_ #[84, 84] 84 #[v, .slice (some ⟨w.heap.size, 0, none⟩) 1 1]).run Tryd.prog (w.alloc (.cells #[.int .i64 y] 3)) = .ok (.slice a (l.length + 1) c) w') ∧ Hid (w'.ownsRow base 3 1 (.slice a (l.length + 1) c) (l ++ [y]).length ((l ++ [y]).flatMap cI64)) ∧ Hid (Grow w w' v (.slice a (l.length + 1) c)) := by
  obtain ⟨v', w', h1, h2, h3⟩ := append_st 3 84 1 8 (.int .i64 0) Tryd.underlying84 Tryd.infoIn rfl (by decide) (by decide) base v l.length (l.flatMap cI64) w #[.int .i64 y] rfl (fun u hu => by simp at hu; subst hu; rfl) h hb hn
  obtain ⟨a, c, rfl⟩ := own_shape h2
  exact ⟨a, c, w', hid h1, hid (by rw [List.flatMap_append, List.length_append]; exact h2), hid h3⟩
end Go.Proofs.YtbiohlfcikdldaaDoor
namespace Go.Proofs.YtbiohlfcikdldaaDoor
open Go.RowKit
set_option maxRecDepth 1000000
set_option linter.unusedVariables false
set_option linter.unusedSimpArgs false
set_option maxHeartbeats 1000000
theorem grow_blk {w w' : World} {v v' : Value} {base e size n : Nat} {fl : List Value} (g : Grow w w' v v') (ho : w.ownsRow base e size v n fl) {p : Nat} {t : TypeId} {cs : Array Value} (h : Blk w p t cs) (hne : t ≠ e) : Blk w' p t cs := by
  refine h.keep (Keep.ofGrow (f := fun k => v.ownBlock ≠ some k) g (fun _ hk => hk)) ?_
  intro hk
  obtain ⟨_, _, cur, hc⟩ := own_type ho hk
  rw [show w.heap[p]? = _ from h] at hc
  cases hc
  exact hne rfl
theorem grow_own {w w' : World} {v v' u : Value} {base e e2 size s2 n m : Nat} {fl gl : List Value} (g : Grow w w' v v') (ho : w.ownsRow base e size v n fl) (h : w.ownsRow base e2 s2 u m gl) (hne : e ≠ e2) : w'.ownsRow base e2 s2 u m gl :=
  own_keep (f := fun k => v.ownBlock ≠ some k) h (fun k hk e2 => own_apart ho h hne e2 hk) (Keep.ofGrow g (fun _ hk => hk))
theorem grow_bel {w w' : World} {v v' : Value} {base e size n B : Nat} {fl : List Value} (g : Grow w w' v v') (ho : w.ownsRow base e size v n fl) (hB : B ≤ base) (hs : B ≤ w.heap.size) : Below B w w' := g.below hs (fun k hk => Nat.le_trans hB (own_type ho hk).1)
def symB (ss : List SY) : Bool := match ss with
  | [] => false
  | s :: r => decide ((s :: r).length ≤ 128) && (decide (s.num = 0) && ((s :: r).all (fun x => decide (0 ≤ x.num ∧ x.num ≤ 2147483647)) && (((s :: r).map SY.name).all nmB && (dfB (((s :: r).map SY.name).map litS) && dfB (((s :: r).map SY.num).map litI)))))
theorem symB_is {ss : List SY} (h : 0 < ss.length) : symB ss = (decide (ss.length ≤ 128) && (decide (ss[0].num = 0) && (ss.all (fun x => decide (0 ≤ x.num ∧ x.num ≤ 2147483647)) && ((ss.map SY.name).all nmB && (dfB ((ss.map SY.name).map litS) && dfB ((ss.map SY.num).map litI)))))) := by
  cases ss with
  | nil => simp at h
  | cons s r => rfl
theorem hasGoodSymbolsT (ss : List SY) (w : World) (a : Option Addr) (c : Nat) (h : RowS w AnyZ 2 (.slice a ss.length c) ss.length (ss.flatMap cSY)) (ht : ∀ x ∈ ss, TxA x.name ∧ I64 x.num) : Calls Tryd.prog 50 #[.slice a ss.length c] w fun e w' => e = .returned (.bool (symB ss)) ∧ Below w.heap.size w w' := by
  obtain ⟨_, _, e, hn⟩ := rowS_sl h
  clear e
  have h1 : (ss.length : Int) ≤ 9223372036854775807 := by omega
  have HR := hid h
  have HT := hid ht
  clear h ht
  by_cases hz : ss.length = 0
  case pos =>
    have e : ss = [] := List.eq_nil_of_length_eq_zero hz
    subst e
    clear HR HT
    go_enter Tryd.func50, Tryd.ntmps50
    go_wp2
    go_ret
    exact ⟨rfl, Below.refl _ _⟩
  have HX := hid (symB_is (ss := ss) (by omega))
  have kz : ((ss.length : Int) == 0) = false := by rw [beq_eq_false_iff_ne]; omega
  by_cases hbig : 128 < ss.length
  case pos =>
    have h2 : (128 : Int) < (ss.length : Int) := by omega
    replace HX := hid (show symB ss = false by rw [HX.out, show decide (ss.length ≤ 128) = false by simp; omega]; rfl)
    go_enter Tryd.func50, Tryd.ntmps50
    go_wp2
    go_ret
    exact ⟨ret_bool HX.out.symm, Below.refl _ _⟩
  have h2 : ¬ (128 : Int) < (ss.length : Int) := by omega
  have h3 : (0 : Int) < (ss.length : Int) := by omega
  obtain ⟨b, o, rfl, hbl, c0, c1⟩ := rowY HR.out (j := 0) (by omega)
  simp only [Nat.zero_mul, Nat.add_zero] at c0 c1
  by_cases h0 : ss[0].num = 0
  case neg =>
    have k0 : (ss[0].num != 0) = true := by simpa using h0
    replace HX := hid (show symB ss = false by rw [HX.out]; simp [h0])
    generalize ss[0] = x at *
    go_enter Tryd.func50, Tryd.ntmps50
    go_wp2
    go_ret
    exact ⟨ret_bool HX.out.symm, Below.refl _ _⟩
  have k0 : (ss[0].num != 0) = false := by simpa using h0
  have HD : Hid (decide (ss[0].num = 0) = true) := hid (by simpa using h0)
  have HL : Hid (decide (ss.length ≤ 128) = true) := hid (by simp; omega)
  replace h0 := hid h0
  replace HX := hid (show symB ss = (ss.all (fun x => decide (0 ≤ x.num ∧ x.num ≤ 2147483647)) && ((ss.map SY.name).all nmB && (dfB ((ss.map SY.name).map litS) && dfB ((ss.map SY.num).map litI)))) by rw [HX.out, HL.out, HD.out]; rfl)
  generalize ss[0] = x0 at *
  go_enter Tryd.func50, Tryd.ntmps50
  go_wp2
  clear c0 c1
  go_loopw [3, 4, 24] (fun v u r wr => ∃ (j : Nat) (va ua : Option Addr) (vc uc : Nat), v = .slice va j vc ∧ u = .slice ua j uc ∧ r = .int .i64 j ∧ j ≤ ss.length ∧ Hid ((ss.take j).all (fun x => decide (0 ≤ x.num ∧ x.num ≤ 2147483647)) = true) ∧ Hid (wr.ownsRow w.heap.size 9 1 (.slice va j vc) ((ss.take j).map SY.name).length (((ss.take j).map SY.name).flatMap cN)) ∧ Hid (wr.ownsRow w.heap.size 3 1 (.slice ua j uc) ((ss.take j).map SY.num).length (((ss.take j).map SY.num).flatMap cI64)) ∧ Hid (Below w.heap.size w wr)) (fun _ _ r wr => ss.length - numAt wr r)
  case atStart => exact ⟨0, none, none, 0, 0, rfl, rfl, rfl, by omega, hid rfl, hid (World.ownsRow_nil _ _ _ _), hid (World.ownsRow_nil _ _ _ _), hid (Below.refl _ _)⟩
  case round =>
    obtain ⟨j, va, ua, vc, uc, rfl, rfl, rfl, hj, hall, HV, HU, hb⟩ := hrel
    by_cases hlt : j < ss.length
    · have h4 : (j : Int) < (ss.length : Int) := by omega
      obtain ⟨b', o', e, hbl', c0, c1⟩ := rowY (HR.out.kept hb.out) hlt
      cases e
      have HTK : Hid (ss.take (j + 1) = ss.take j ++ [ss[j]]) := hid (List.take_succ_eq_append_getElem hlt)
      have HLN : Hid (((ss.take j).map SY.name).length = j ∧ ((ss.take j).map SY.num).length = j) := hid (by simp; omega)
      have HAL : Hid (ss.all (fun x => decide (0 ≤ x.num ∧ x.num ≤ 2147483647)) = true → (0 ≤ ss[j].num ∧ ss[j].num ≤ 2147483647)) := hid (fun q => by have := List.all_eq_true.1 q _ (List.getElem_mem hlt); simpa using this)
      generalize ss[j] = x at *
      by_cases q1 : x.num < 0
      · replace HX := hid (show symB ss = false by rw [HX.out, show ss.all _ = false from by cases q : ss.all (fun x => decide (0 ≤ x.num ∧ x.num ≤ 2147483647)); rfl; have := HAL.out q; omega]; rfl)
        go_wp2
        go_ret
        exact ⟨ret_bool HX.out.symm, by have := hb.out; exact blBy⟩
      · by_cases q2 : 2147483647 < x.num
        · replace HX := hid (show symB ss = false by rw [HX.out, show ss.all _ = false from by cases q : ss.all (fun x => decide (0 ≤ x.num ∧ x.num ≤ 2147483647)); rfl; have := HAL.out q; omega]; rfl)
          go_wp2
          go_ret
          exact ⟨ret_bool HX.out.symm, by have := hb.out; exact blBy⟩
        · have HAJ : Hid ((ss.take (j + 1)).all (fun x => decide (0 ≤ x.num ∧ x.num ≤ 2147483647)) = true) := hid (by rw [HTK.out, List.all_append, hall.out]; simp; omega)
          go_upto_region 10 with fail
          have BS : Blk (wr.alloc (.cells #[.string (strOfNums x.name), .int .i64 x.num] 56)) wr.heap.size 56 #[.string (strOfNums x.name), .int .i64 x.num] := Blk.newAt rfl
          have HV1 := hid (own_kept HV.out (below_alloc (.cells #[.string (strOfNums x.name), .int .i64 x.num] 56)))
          have HU1 := hid (own_kept HU.out (below_alloc (.cells #[.string (strOfNums x.name), .int .i64 x.num] 56)))
          have hb1 : Hid (Below w.heap.size w (wr.alloc (.cells #[.string (strOfNums x.name), .int .i64 x.num] 56))) := hid (by have := hb.out; exact blBy)
          clear c0 c1
          generalize (wr.alloc (.cells #[.string (strOfNums x.name), .int .i64 x.num] 56)) = w1 at *
          have xs := BS.cellF
          have zs := BS.lt
          obtain ⟨la, lc, x1, HRUN, HV2, HG1⟩ := appendSt w.heap.size (.slice va j vc) ((ss.take j).map SY.name) x.name w1 HV1.out hb1.out.size (by have := HLN.out.1; omega)
          rw [HLN.out.1] at HRUN HV2 HG1
          have BS2 := grow_blk HG1.out HV1.out BS (by decide)
          have HU2 := hid (grow_own HG1.out HV1.out HU1.out (by decide))
          have hb2 : Hid (Below w.heap.size w x1) := hid (hb1.out.trans (grow_bel HG1.out HV1.out (Nat.le_refl _) hb1.out.size))
          go_upto_region 11 with (first | (at_builtin; refine wpList_append_ran rfl _ _ 59 59 rfl rfl _ _ (.slice la (j + 1) lc) x1 rfl rfl HRUN.out ?_))
          clear xs zs HRUN HV1 HU1 BS
          have xs := BS2.cellF
          have zs := BS2.lt
          obtain ⟨ka, kc, x2, HRUN, HU3, HG2⟩ := appendIn w.heap.size (.slice ua j uc) ((ss.take j).map SY.num) x.num x1 HU2.out hb2.out.size (by have := HLN.out.2; omega)
          rw [HLN.out.2] at HRUN HU3 HG2
          have HV3 := hid (grow_own HG2.out HU2.out HV2.out (by decide))
          have hb3 : Hid (Below w.heap.size w x2) := hid (hb2.out.trans (grow_bel HG2.out HU2.out (Nat.le_refl _) hb2.out.size))
          go_wp2_with (first | (at_builtin; refine wpList_append_ran rfl _ _ 84 84 rfl rfl _ _ (.slice ka (j + 1) kc) x2 rfl rfl HRUN.out ?_))
          exact ⟨⟨j + 1, la, ka, lc, kc, rfl, rfl, by simp, by omega, HAJ, hid (by rw [HTK.out, List.map_append]; exact HV3.out), hid (by rw [HTK.out, List.map_append]; exact HU3.out), hb3⟩, by simp [numAt]; omega⟩
    · have h4 : ¬ (j : Int) < (ss.length : Int) := by omega
      have e1 : ss.take j = ss := List.take_of_length_le (by omega)
      have ej : j = ss.length := by omega
      subst ej
      rw [e1] at hall HV HU
      have HTN : Hid (∀ x ∈ ss.map SY.name, TxA x) := hid (fun x hx => by obtain ⟨y, hy, rfl⟩ := List.mem_map.1 hx; exact (HT.out y hy).1)
      have HTI : Hid (∀ x ∈ ss.map SY.num, I64 x) := hid (fun x hx => by obtain ⟨y, hy, rfl⟩ := List.mem_map.1 hx; exact (HT.out y hy).2)
      have HLM : Hid ((ss.map SY.name).length = ss.length ∧ (ss.map SY.num).length = ss.length) := hid (by simp)
      have HRV : Hid (RowS wr AnyZ 1 (.slice va ss.length vc) (ss.map SY.name).length ((ss.map SY.name).flatMap cN)) := hid (own_row HV.out (fun _ _ => trivial))
      have HRU : Hid (RowS wr AnyZ 1 (.slice ua ss.length uc) (ss.map SY.num).length ((ss.map SY.num).flatMap cI64)) := hid (own_row HU.out (fun _ _ => trivial))
      replace HX := hid (show symB ss = ((ss.map SY.name).all nmB && (dfB ((ss.map SY.name).map litS) && dfB ((ss.map SY.num).map litI))) by rw [HX.out, hall.out]; rfl)
      clear HV HU HR HT
      go_wp2_with fail
      refine (areNamesT (ss.map SY.name) _ va ss.length vc HRV.out HTN.out).mono ?_
      rintro e w1 ⟨rfl, rfl⟩
      cases hq : (ss.map SY.name).all nmB with
      | false =>
        go_wp2
        go_ret
        exact ⟨ret_bool (by rw [HX.out, hq]; rfl), hb.out⟩
      | true =>
        go_wp2_with fail
        have HA := areDiffS (ss.map SY.name) wr va vc (by rw [HLM.out.1]; have := HRV.out; rw [HLM.out.1] at this; exact this) HTN.out
        rw [HLM.out.1] at HA
        refine HA.mono ?_
        rintro e w2 ⟨rfl, hb2⟩
        have HB2 := hid (bl_then hb.out hb2)
        have HRU2 := hid (HRU.out.kept hb2)
        clear hb2
        cases hq2 : dfB ((ss.map SY.name).map litS) with
        | false =>
          go_wp2
          go_ret
          exact ⟨ret_bool (by rw [HX.out, hq, hq2]; rfl), HB2.out⟩
        | true =>
          go_wp2_with fail
          have HA := areDiffI (ss.map SY.num) w2 ua uc (by rw [HLM.out.2]; have := HRU2.out; rw [HLM.out.2] at this; exact this) HTI.out
          rw [HLM.out.2] at HA
          refine HA.mono ?_
          rintro e w3 ⟨rfl, hb3⟩
          have HB3 := hid (bl_then HB2.out hb3)
          clear hb3
          go_wp2
          go_ret
          exact ⟨ret_bool (by rw [HX.out, hq, hq2]; simp), HB3.out⟩
end Go.Proofs.YtbiohlfcikdldaaDoor
