/-
  P3.4: the law's walk.
  P3.4: the law's walk at every string.
  The variables of Go's library that the rows list: what their list gives; a world that lays them.
  Names and their kinds: the program's walk and the document's.
  P3.6: what is read of what was written is the value: numbers alone.
-/
import Derived.Test.YtcenkalhklpajaaGreatDoorCUL
import Derived.Test.YtcenkalhklpajaaGreatDoorCSF
import Derived.Test.YtcenkalhklpajaaGreatDoorCG
import Derived.Test.YtcenkalhklpajaaGreatDoorRows
import Derived.Stop.LaidErr
import Derived.Lib.LaidTab
import Derived.Deep.DeepHandedRow
import Derived.Deep.DeepWitnessRowRef
import Derived.LaidLaws
import Derived.Test.YtcenkalhklpajaaGreatDoorCQK
import Derived.Test.YtcenkalhklpajaaGreatDoorCQA
import Derived.Lib.Strings
import Derived.Test.YtcenkalhklpajaaGreatDoorCUG
namespace Go.Proofs.YtcenkalhklpajaaGreatDoor
open Go.RowKit Go.Sort
set_option maxRecDepth 1000000
set_option linter.unusedVariables false
set_option maxHeartbeats 8000000

theorem cell_kept {w w' : World} {b o : Nat} {x : Value} (hb : Below w.heap.size w w') (h : w.cell? ⟨b, o, none⟩ = some x) : w'.cell? ⟨b, o, none⟩ = some x := cell_keptG h w' hb
theorem block_lt {w : World} {b o : Nat} {x : Value} (h : w.cell? ⟨b, o, none⟩ = some x) : b < w.heap.size := World.block_lt_of_cell? _ _ h
theorem gaveP_is {w w' : World} {g : GotV} {e : Ending} (h : GaveP w g e w') : ∃ a c, e = .returned (.tuple #[.agg #[.int .u64 g.n, .slice a g.b.length c, .slice none 0 0], .int .i64 g.err]) ∧ Reads w' a g.b.length c g.b ∧ Below w.heap.size w w' := h
section
variable (k n : Int) (a am : Option Addr) (len cap lm cm : Nat) (xs : List Int) (t : ByteArray) (w : World)
theorem textsWith (x : ByteArray) (er gn ge : Int) (gb pb : List Int) (hread : Reads w a len cap xs) (hL : Laid w)
    (HTX : ∀ W : World, Reads W a len cap xs → Laid W → Calls Tryz.prog 17 #[.int .i64 k, .agg #[.int .u64 n, .slice a len cap, .slice am lm cm]] W fun e w' => e = .returned (.tuple #[.string x, .int .i64 er]) ∧ Below W.heap.size W w')
    (HPS : ∀ W : World, Laid W → Calls Tryz.prog 18 #[.int .i64 k, .string t] W fun e w' => ∃ a c, e = .returned (.tuple #[.agg #[.int .u64 gn, .slice a gb.length c, .slice none 0 0], .int .i64 ge]) ∧ Reads w' a gb.length c gb ∧ Below W.heap.size W w')
    (HPT : ∀ W : World, Reads W a len cap xs → Calls Tryz.prog 21 #[.int .i64 k, .agg #[.int .u64 n, .slice a len cap, .slice am lm cm]] W fun e w' => ∃ a c, e = .returned (.tuple #[.slice a pb.length c, .int .i64 er]) ∧ Reads w' a pb.length c pb ∧ Below W.heap.size W w')
    (HPR : ∀ W : World, Calls Tryz.prog 22 #[.int .i64 k, .string t] W fun e w' => ∃ a c, e = .returned (.tuple #[.agg #[.int .u64 gn, .slice a gb.length c, .slice none 0 0], .int .i64 ge]) ∧ Reads w' a gb.length c gb ∧ Below W.heap.size W w')
    (HRT : er = 0 → ∀ W : World, Reads W a len cap xs → Laid W → Calls Tryz.prog 23 #[.int .i64 k, .agg #[.int .u64 n, .slice a len cap, .slice am lm cm]] W fun e w' => e = .returned (.string x) ∧ Below W.heap.size W w')
    (hz : ge ≠ 0 → gn = 0 ∧ gb = []) (hx : er ≠ 0 → x = ⟨#[]⟩) :
    Calls Tryz.prog 4 #[.int .i64 k, .agg #[.int .u64 n, .slice a len cap, .slice am lm cm], .string t] w fun e w' => e = .returned (.bool true) ∧ Below w.heap.size w w' := by
  have HR := hid hread
  have HL := hid hL
  replace HTX := hid HTX
  replace HPS := hid HPS
  replace HPT := hid HPT
  replace HPR := hid HPR
  have HZ := hid hz
  clear hread hL hz
  by_cases he : er = 0
  · subst he
    replace HRT := hid (HRT rfl)
    have hsame : (x.toList != x.toList) = false := by simp
    clear hx
    go_enter Tryz.func4, Tryz.ntmps4
    go_wp2_with fail
    refine (HTX.out _ (reads_kept HR.out (below_alloc _)) (HL.out.kept (below_alloc _))).mono ?_
    rintro e w1 ⟨rfl, hb⟩
    obtain ⟨d0, d1, d2⟩ := vcells hb
    have HB := hid (below_trans (below_alloc _) hb)
    clear hb
    go_wp2_with fail
    refine (HPS.out _ (HL.out.kept HB.out)).mono ?_
    rintro e w2 ⟨pa, pc, rfl, hp, hb⟩
    replace d0 := cell_kept hb d0
    replace d1 := cell_kept hb d1
    replace d2 := cell_kept hb d2
    have hgr2 := block_lt d0
    replace HB := hid (below_trans HB.out hb)
    replace hp := hid hp
    clear hb
    go_wp2_with fail
    refine (HPT.out _ (reads_kept (reads_kept HR.out HB.out) (below_alloc _))).mono ?_
    rintro e w3 ⟨ra, rc, rfl, hr, hb⟩
    obtain ⟨f0, f1, f2⟩ := vcells hb
    replace d0 := cell_kept (below_trans (below_alloc _) hb) d0
    replace d1 := cell_kept (below_trans (below_alloc _) hb) d1
    replace d2 := cell_kept (below_trans (below_alloc _) hb) d2
    replace HB := hid (below_trans (below_trans HB.out (below_alloc _)) hb)
    replace hp := hid (reads_kept (reads_kept hp.out (below_alloc _)) hb)
    clear hb hr hgr2
    go_wp2_with fail
    refine (HPR.out _).mono ?_
    rintro e w4 ⟨xa, xc, rfl, hx, hb⟩
    replace d0 := cell_kept hb d0
    replace d1 := cell_kept hb d1
    replace d2 := cell_kept hb d2
    replace f0 := cell_kept hb f0
    replace f1 := cell_kept hb f1
    replace f2 := cell_kept hb f2
    have hgr4 := block_lt d0
    have hgr5 := block_lt f0
    replace HB := hid (below_trans HB.out hb)
    replace hp := hid (reads_kept hp.out hb)
    replace hx := hid hx
    clear hb
    go_wp2_with fail
    refine (awake3 _).mono ?_
    rintro e w5 ⟨rfl, hb⟩
    obtain ⟨g0, g1, g2⟩ := vcells hb
    replace d0 := cell_kept (below_trans (below_alloc _) hb) d0
    replace d1 := cell_kept (below_trans (below_alloc _) hb) d1
    replace d2 := cell_kept (below_trans (below_alloc _) hb) d2
    replace f0 := cell_kept (below_trans (below_alloc _) hb) f0
    replace f1 := cell_kept (below_trans (below_alloc _) hb) f1
    replace f2 := cell_kept (below_trans (below_alloc _) hb) f2
    replace HB := hid (below_trans (below_trans HB.out (below_alloc _)) hb)
    replace hp := hid (reads_kept (reads_kept hp.out (below_alloc _)) hb)
    replace hx := hid (reads_kept (reads_kept hx.out (below_alloc _)) hb)
    clear hb hgr4 hgr5
    go_wp2_with fail
    refine (HRT.out _ (reads_kept HR.out HB.out) (HL.out.kept HB.out)).mono ?_
    rintro e w6 ⟨rfl, hb⟩
    replace f0 := cell_kept hb f0
    replace f1 := cell_kept hb f1
    replace f2 := cell_kept hb f2
    replace g0 := cell_kept hb g0
    replace g1 := cell_kept hb g1
    replace g2 := cell_kept hb g2
    replace HB := hid (below_trans HB.out hb)
    replace hp := hid (reads_kept hp.out hb)
    replace hx := hid (reads_kept hx.out hb)
    clear hb
    go_wp2_with fail
    refine (toldYes gn gn pa xa none none gb.length pc gb.length xc 0 0 gb gb _ ge hp.out hx.out HZ.out (by simp)).mono ?_
    rintro e w7 ⟨rfl, hb⟩
    replace HB := hid (below_trans HB.out hb)
    clear hb
    go_wp2
    go_ret
    exact ⟨rfl, HB.out⟩
  · obtain rfl := hx he
    have hne : (er != 0) = true := by simpa using he
    have heq : (er == 0) = false := by simpa using he
    clear HRT he
    go_enter Tryz.func4, Tryz.ntmps4
    go_wp2_with fail
    refine (HTX.out _ (reads_kept HR.out (below_alloc _)) (HL.out.kept (below_alloc _))).mono ?_
    rintro e w1 ⟨rfl, hb⟩
    obtain ⟨d0, d1, d2⟩ := vcells hb
    have HB := hid (below_trans (below_alloc _) hb)
    clear hb
    go_wp2_with fail
    refine (HPS.out _ (HL.out.kept HB.out)).mono ?_
    rintro e w2 ⟨pa, pc, rfl, hp, hb⟩
    replace d0 := cell_kept hb d0
    replace d1 := cell_kept hb d1
    replace d2 := cell_kept hb d2
    have hgr2 := block_lt d0
    replace HB := hid (below_trans HB.out hb)
    replace hp := hid hp
    clear hb
    go_wp2_with fail
    refine (HPT.out _ (reads_kept (reads_kept HR.out HB.out) (below_alloc _))).mono ?_
    rintro e w3 ⟨ra, rc, rfl, hr, hb⟩
    obtain ⟨f0, f1, f2⟩ := vcells hb
    replace d0 := cell_kept (below_trans (below_alloc _) hb) d0
    replace d1 := cell_kept (below_trans (below_alloc _) hb) d1
    replace d2 := cell_kept (below_trans (below_alloc _) hb) d2
    replace HB := hid (below_trans (below_trans HB.out (below_alloc _)) hb)
    replace hp := hid (reads_kept (reads_kept hp.out (below_alloc _)) hb)
    clear hb hr hgr2
    go_wp2_with fail
    refine (HPR.out _).mono ?_
    rintro e w4 ⟨xa, xc, rfl, hx, hb⟩
    replace d0 := cell_kept hb d0
    replace d1 := cell_kept hb d1
    replace d2 := cell_kept hb d2
    replace f0 := cell_kept hb f0
    replace f1 := cell_kept hb f1
    replace f2 := cell_kept hb f2
    have hgr4 := block_lt d0
    have hgr5 := block_lt f0
    replace HB := hid (below_trans HB.out hb)
    replace hp := hid (reads_kept hp.out hb)
    replace hx := hid hx
    clear hb
    go_wp2_with fail
    refine (awake3 _).mono ?_
    rintro e w5 ⟨rfl, hb⟩
    obtain ⟨g0, g1, g2⟩ := vcells hb
    replace d0 := cell_kept (below_trans (below_alloc _) hb) d0
    replace d1 := cell_kept (below_trans (below_alloc _) hb) d1
    replace d2 := cell_kept (below_trans (below_alloc _) hb) d2
    replace f0 := cell_kept (below_trans (below_alloc _) hb) f0
    replace f1 := cell_kept (below_trans (below_alloc _) hb) f1
    replace f2 := cell_kept (below_trans (below_alloc _) hb) f2
    replace HB := hid (below_trans (below_trans HB.out (below_alloc _)) hb)
    replace hp := hid (reads_kept (reads_kept hp.out (below_alloc _)) hb)
    replace hx := hid (reads_kept (reads_kept hx.out (below_alloc _)) hb)
    clear hb hgr4 hgr5
    go_wp2_with fail
    refine (toldYes gn gn pa xa none none gb.length pc gb.length xc 0 0 gb gb _ ge hp.out hx.out HZ.out (by simp)).mono ?_
    rintro e w7 ⟨rfl, hb⟩
    replace HB := hid (below_trans HB.out hb)
    clear hb
    go_wp2
    go_ret
    exact ⟨rfl, HB.out⟩
end
theorem parseV_zero (k : Int) (ys : List Int) : (parseV k ys).err ≠ 0 → (parseV k ys).n = 0 ∧ (parseV k ys).b = [] := by
  unfold parseV
  split
  · exact fun _ => ⟨rfl, rfl⟩
  · split
    · split
      · exact fun _ => ⟨rfl, rfl⟩
      · split
        · exact fun _ => ⟨rfl, rfl⟩
        · exact fun h => absurd rfl h
    · split
      · exact fun _ => ⟨rfl, rfl⟩
      · split
        · exact fun _ => ⟨rfl, rfl⟩
        · exact fun h => absurd rfl h
theorem scalarTextsW (k n : Int) (a am : Option Addr) (len cap lm cm : Nat) (xs ys : List Int) (w : World) (h0 : 0 ≤ n) (h1 : n < 18446744073709551616) (h : Reads w a len cap xs) (hm : lm ≤ 9223372036854775807) (hlen : len ≤ 1048576) (hy : ∀ y ∈ ys, 0 ≤ y ∧ y ≤ 255) (hyl : ys.length ≤ 4194304) (hL : Laid w) :
    Calls Tryz.prog 4 #[.int .i64 k, .agg #[.int .u64 n, .slice a len cap, .slice am lm cm], .string (strOfNums ys)] w fun e w' => e = .returned (.bool true) ∧ Below w.heap.size w w' := by
  refine textsWith k n a am len cap lm cm xs (strOfNums ys) w (textE k n xs lm) (flt k n xs lm) (parseV k ys).n (parseV k ys).err (parseV k ys).b (putE k n xs lm).1 h hL (fun W hw hl => textKW k n a am len cap lm cm W xs h0 h1 hw hm hlen hl) (fun W hl => (parseKW k ys hy (by omega) W hl.syn hl.rng).mono fun e w' h => gaveP_is h) (fun W hw => (putKR k n a am len cap lm cm W xs h0 h1 hw hm (by omega)).mono fun e w' h => ?_) (fun W => (parseKR k ys hy hyl W).mono fun e w' h => gaveP_is h) (fun he W hw hl => (textKR k n a am len cap lm cm W xs h0 h1 hw hlen hl he).mono fun e w' h => ⟨by rw [h.1]; unfold textE; rw [if_pos he], h.2⟩) (parseV_zero k ys) (fun he => by unfold textE; rw [if_neg he])
  have e2 : (putE k n xs lm).2 = flt k n xs lm := by unfold putE; split <;> simp_all
  rw [← e2]
  exact h
end Go.Proofs.YtcenkalhklpajaaGreatDoor
namespace Go.Proofs.YtcenkalhklpajaaGreatDoor
open Go.RowKit
set_option maxRecDepth 1000000
set_option linter.unusedVariables false
theorem scalarTextsS (k n : Int) (a am : Option Addr) (len cap lm cm : Nat) (xs : List Int) (t : ByteArray) (w : World) (h0 : 0 ≤ n) (h1 : n < 18446744073709551616) (h : Reads w a len cap xs) (hm : lm ≤ 9223372036854775807) (hlen : len ≤ 1048576) (htl : t.data.toList.length ≤ 1048576) (hL : Laid w) :
    Calls Tryz.prog 4 #[.int .i64 k, .agg #[.int .u64 n, .slice a len cap, .slice am lm cm], .string t] w fun e w' => e = .returned (.bool true) ∧ Below w.heap.size w w' := by
  have := scalarTextsW k n a am len cap lm cm xs (numsS t) w h0 h1 h hm hlen (numsS_bd t) (by rw [numsS_len]; omega) hL
  rw [numsS_str] at this
  exact this
end Go.Proofs.YtcenkalhklpajaaGreatDoor
namespace Go.Proofs.YtcenkalhklpajaaGreatDoor
open Go.ChangeShapes Go.WideShapes Go.ChangeAt Go.RowKit
set_option maxRecDepth 1000000
set_option maxRecDepth 100000

theorem laidMet_tail {P : Program} {x : String × DataW Unit} {r : List (String × DataW Unit)} {W : World} (h : laidMet P (x :: r) W) : laidMet P r W := by
  obtain ⟨ps, ⟨g, t, cs, fuel, p, q, _, _, _, _, h5, e⟩, hnd, hrows⟩ := h
  subst e
  exact ⟨q, h5, (List.nodup_append.1 hnd).2.1, fun b off hm => hrows b off (by simp [hm])⟩
theorem gR : Tryz.prog.globalNamed "strconv.ErrRange" = some 3 := by kernel_rfl
theorem gRType : (Tryz.prog.globals[3]?).map (·.type) = some 99 := by kernel_rfl
theorem starE : "*" ++ "errors.errorString" = "*errors.errorString" := by decide
theorem ptrRow : ∀ u, Tryz.prog.typeName? 3 u = some "*errors.errorString" → u = 166 := fun u h =>
  typeName_ptr_named (nm := "errors.errorString") (by rw [starE]; kernel_rfl) (by kernel_rfl) (by decide) u (by rw [starE]; exact h)
theorem cellsE : Tryz.prog.cellsOf 168 = 1 := by kernel_rfl
theorem cellsStr : Tryz.prog.cellsOf 9 = 1 := by kernel_rfl
/-- The rows' list. -/
def laidL : List (String × DataW Unit) := [("math/bits.deBruijn32tab", Rows.laid_math_bits_deBruijn32tab), ("math/bits.deBruijn64tab", Rows.laid_math_bits_deBruijn64tab), ("internal/strconv.uint64pow10", Rows.laid_internal_strconv_uint64pow10), ("strconv.ErrRange", Rows.laid_strconv_ErrRange), ("strconv.ErrSyntax", Rows.laid_strconv_ErrSyntax)]
theorem laid_plain {W : World} (h : laidMetH Tryz.prog laidL W) : laidMet Tryz.prog laidL W := h
theorem laid_range {W : World} (h : laidMet Tryz.prog laidL W) : Sentinel W 3 := by
  obtain ⟨a, t, hv, _⟩ := laid_sentinel (laidMet_tail (laidMet_tail (laidMet_tail h))) gR gRType Tryz.underlying99 ptrRow Tryz.underlying166 Tryz.underlying168 rfl rfl Tryz.underlying9 cellsE cellsStr
  exact ⟨166, _, by simpa using World.var?_cell gR hv 0⟩
theorem gS : Tryz.prog.globalNamed "strconv.ErrSyntax" = some 2 := by kernel_rfl
theorem gSType : (Tryz.prog.globals[2]?).map (·.type) = some 99 := by kernel_rfl
theorem laid_syntax {W : World} (h : laidMet Tryz.prog laidL W) : Sentinel W 2 := by
  obtain ⟨a, t, hv, _⟩ := laid_sentinel (laidMet_tail (laidMet_tail (laidMet_tail (laidMet_tail h)))) gS gSType Tryz.underlying99 ptrRow Tryz.underlying166 Tryz.underlying168 rfl rfl Tryz.underlying9 cellsE cellsStr
  exact ⟨166, _, by simpa using World.var?_cell gS hv 0⟩
theorem gP : Tryz.prog.globalNamed "internal/strconv.uint64pow10" = some 1 := by kernel_rfl
theorem gPType : (Tryz.prog.globals[1]?).map (·.type) = some 146 := by kernel_rfl
theorem g64 : Tryz.prog.globalNamed "math/bits.deBruijn64tab" = some 5 := by kernel_rfl
theorem g64Type : (Tryz.prog.globals[5]?).map (·.type) = some 165 := by kernel_rfl
theorem laid_pow {W : World} (h : laidMet Tryz.prog laidL W) : Lib.TabIs Tryz.prog W "internal/strconv.uint64pow10" .u64 Lib.pow10Tab :=
  Lib.tabIs_of_head gP gPType Tryz.underlying146 Tryz.underlying30 (by kernel_rfl) (by kernel_rfl) (laidMet_tail (laidMet_tail h))
theorem laid_deb {W : World} (h : laidMet Tryz.prog laidL W) : W.cell? ⟨5, 15, none⟩ = some (.int .u8 4) := by
  have ht : Lib.TabIs Tryz.prog W "math/bits.deBruijn64tab" .u8 [0, 1, 56, 2, 57, 49, 28, 3, 61, 58, 42, 50, 38, 29, 17, 4, 62, 47, 59, 36, 45, 43, 51, 22, 53, 39, 33, 30, 24, 18, 12, 5, 63, 55, 48, 27, 60, 41, 37, 16, 46, 35, 44, 21, 52, 32, 23, 11, 54, 26, 40, 15, 34, 20, 31, 10, 25, 14, 19, 9, 13, 8, 7, 6] := Lib.tabIs_of_head g64 g64Type Tryz.underlying165 Tryz.underlying5 (by kernel_rfl) (by kernel_rfl) (laidMet_tail h)
  exact ht.cell g64 15 (by decide)
theorem laid_all {W : World} (h : laidMet Tryz.prog laidL W) : Laid W := ⟨laid_pow h, laid_deb h, laid_syntax h, laid_range h⟩
/-- Where the two errors' blocks lie. -/
noncomputable def low : Nat := (World.holding Tryz.prog default ⟨#[], #[], []⟩).heap.size
/-- A block's cells laid anew. -/
noncomputable def layAt (g : Nat) (cs : Array Value) (w : World) : World := { w with heap := w.heap.modify g fun
      | .cells _ t frozen => .cells cs t frozen
      | o => o }
noncomputable def laidWorld (os : Os) : World :=
  layAt 4 (List.toArray (.int .u8 0 :: .int .u8 1 :: .int .u8 28 :: .int .u8 2 :: .int .u8 29 :: .int .u8 14 :: .int .u8 24 :: .int .u8 3 :: .int .u8 30 :: .int .u8 22 :: .int .u8 20 :: .int .u8 15 :: .int .u8 25 :: .int .u8 17 :: .int .u8 4 :: .int .u8 8 :: .int .u8 31 :: .int .u8 27 :: .int .u8 13 :: .int .u8 23 :: .int .u8 21 :: .int .u8 19 :: .int .u8 16 :: .int .u8 7 :: .int .u8 26 :: .int .u8 12 :: .int .u8 18 :: .int .u8 6 :: .int .u8 11 :: .int .u8 5 :: .int .u8 10 :: .int .u8 9 :: [])) (layAt 5 (List.toArray (.int .u8 0 :: .int .u8 1 :: .int .u8 56 :: .int .u8 2 :: .int .u8 57 :: .int .u8 49 :: .int .u8 28 :: .int .u8 3 :: .int .u8 61 :: .int .u8 58 :: .int .u8 42 :: .int .u8 50 :: .int .u8 38 :: .int .u8 29 :: .int .u8 17 :: .int .u8 4 :: .int .u8 62 :: .int .u8 47 :: .int .u8 59 :: .int .u8 36 :: .int .u8 45 :: .int .u8 43 :: .int .u8 51 :: .int .u8 22 :: .int .u8 53 :: .int .u8 39 :: .int .u8 33 :: .int .u8 30 :: .int .u8 24 :: .int .u8 18 :: .int .u8 12 :: .int .u8 5 :: .int .u8 63 :: .int .u8 55 :: .int .u8 48 :: .int .u8 27 :: .int .u8 60 :: .int .u8 41 :: .int .u8 37 :: .int .u8 16 :: .int .u8 46 :: .int .u8 35 :: .int .u8 44 :: .int .u8 21 :: .int .u8 52 :: .int .u8 32 :: .int .u8 23 :: .int .u8 11 :: .int .u8 54 :: .int .u8 26 :: .int .u8 40 :: .int .u8 15 :: .int .u8 34 :: .int .u8 20 :: .int .u8 31 :: .int .u8 10 :: .int .u8 25 :: .int .u8 14 :: .int .u8 19 :: .int .u8 9 :: .int .u8 13 :: .int .u8 8 :: .int .u8 7 :: .int .u8 6 :: [])) (layAt 1 (List.toArray (.int .u64 1 :: .int .u64 10 :: .int .u64 100 :: .int .u64 1000 :: .int .u64 10000 :: .int .u64 100000 :: .int .u64 1000000 :: .int .u64 10000000 :: .int .u64 100000000 :: .int .u64 1000000000 :: .int .u64 10000000000 :: .int .u64 100000000000 :: .int .u64 1000000000000 :: .int .u64 10000000000000 :: .int .u64 100000000000000 :: .int .u64 1000000000000000 :: .int .u64 10000000000000000 :: .int .u64 100000000000000000 :: .int .u64 1000000000000000000 :: .int .u64 10000000000000000000 :: []))
    (layAt 3 #[.iface 166 (.pointer (some ⟨low, 0, none⟩))] (layAt 2 #[.iface 166 (.pointer (some ⟨low + 1, 0, none⟩))]
      (World.holding Tryz.prog os ⟨#[.cells #[.string ⟨#[118, 97, 108, 117, 101, 32, 111, 117, 116, 32, 111, 102, 32, 114, 97, 110, 103, 101]⟩] 168, .cells #[.string ⟨#[105, 110, 118, 97, 108, 105, 100, 32, 115, 121, 110, 116, 97, 120]⟩] 168], #[], []⟩)))))
theorem laid_met (os : Os) (args : Array Value) : laidMet Tryz.prog laidL ((laidWorld os).forCall (fun _ _ => 0) ⟨#[], args, []⟩).memory :=
  laidMet_of_run' 8 (by kernel_rfl) (by kernel_rfl)
end Go.Proofs.YtcenkalhklpajaaGreatDoor
namespace Go.Proofs.YtcenkalhklpajaaGreatDoor
open Go.RowKit
set_option maxRecDepth 1000000
set_option maxHeartbeats 4000000

theorem ba_eq (a b : ByteArray) : (a.toList == b.toList) = decide (a = b) := by
  rw [Bool.eq_iff_iff]
  simp only [beq_iff_eq, decide_eq_true_eq]
  constructor
  · intro h
    apply ByteArray.ext
    apply Array.ext'
    rwa [Lib.toList_data, Lib.toList_data] at h
  · intro h; rw [h]
def kfind (t : ByteArray) : Nat → Int → Int
  | 0, _ => 0
  | f + 1, i => if kname i = t then i else kfind t f (i + 1)
def kindS (t : ByteArray) : Int := kfind t 15 1
theorem kfind_hit {t : ByteArray} {f : Nat} {i : Int} (h : kname i = t) : kfind t (f + 1) i = i := by unfold kfind; rw [if_pos h]
theorem kfind_miss {t : ByteArray} {f : Nat} {i : Int} (h : kname i ≠ t) : kfind t (f + 1) i = kfind t f (i + 1) := by rw [kfind, if_neg h]
def kindE (t : ByteArray) : Int := if kindS t = 0 then 12 else 0
theorem kindW (t : ByteArray) (w : World) : Calls Tryz.prog 16 #[.string t] w fun e w' => e = .returned (.tuple #[.int .i64 (kindS t), .int .i64 (kindE t)]) ∧ w = w' := by
  go_enter Tryz.func16, Tryz.ntmps16
  go_wp2
  go_loop [4] (fun k => ∃ (i : Int) (f : Nat), 1 ≤ i ∧ i ≤ 16 ∧ (f : Int) = 16 - i ∧ k = .int .i64 i ∧ Hid (kfind t f i = kindS t)) (fun k => (16 - intOf k).toNat)
  case atStart => exact ⟨1, 15, by omega, by omega, by omega, rfl, hid rfl⟩
  case round =>
    obtain ⟨i, f, h1, h2, h3, rfl, HK⟩ := hrel
    by_cases h15 : i ≤ 15
    · obtain ⟨f, rfl⟩ : ∃ g, f = g + 1 := ⟨f - 1, by omega⟩
      have HN := hid (fun W => nameW i W)
      by_cases he : kname i = t
      · have hb : ((kname i).toList == t.toList) = true := by rw [ba_eq]; simpa using he
        have H : Hid (i = kindS t) := hid (by rw [← HK.out, kfind_hit he])
        clear he
        go_wp2_with (go_at_call 15; refine (HN.out _).mono ?_; rintro e w' ⟨rfl, rfl⟩)
        try rw [Exit.noGoto_ret]
        go_ret2
        exact ⟨ret_ii H.out (by unfold kindE; rw [← H.out, if_neg (by omega)]), rfl⟩
      · have hb : ((kname i).toList == t.toList) = false := by rw [ba_eq]; simpa using he
        have H := hid (HK.out.symm.trans (kfind_miss he)).symm
        clear he
        go_wp2_with (go_at_call 15; refine (HN.out _).mono ?_; rintro e w' ⟨rfl, rfl⟩)
        exact ⟨⟨i + 1, f, by omega, by omega, by omega, by go_num, hid H.out⟩, by simp [intOf]; omega⟩
    · have hf : f = 0 := by omega
      subst hf
      have hi : i = 16 := by omega
      subst hi
      have H : Hid (0 = kindS t) := hid HK.out
      go_wp2
      go_ret2
      exact ⟨ret_ii H.out (by unfold kindE; rw [← H.out]; rfl), rfl⟩
end Go.Proofs.YtcenkalhklpajaaGreatDoor
namespace Go.Proofs.YtcenkalhklpajaaGreatDoor
open Go.RowKit Go.Sort
set_option maxRecDepth 1000000
set_option maxHeartbeats 1000000
set_option linter.unusedVariables false
set_option linter.unusedSimpArgs false

theorem gw_any (rest : List Int) (s : Nat) (n : Int) (h0 : 0 ≤ n) : gw (pw s n ++ rest) 0 s = (n % 2 ^ (8 * s), ((pw s n).length : Int), 0) := by
  unfold gw
  rw [if_neg (by simp [pw_length]), List.drop_zero, List.take_left' (pw_length s n), word_pw s n h0, pw_length]
  simp
theorem gv_at (rest : List Int) (n : Int) (h0 : 0 ≤ n) (h1 : n < 18446744073709551616) : gv (pv n ++ rest) 0 = (n, ((pv n).length : Int), 0) := by
  have := gv_put [] rest n h0 h1
  simpa using this
theorem gc_at (rest ys : List Int) (h : ys.length < 18446744073709551616) : gc (pc ys ++ rest) 0 = (ys, ((pc ys).length : Int), 0) := by
  have := gc_put [] rest ys h
  simpa using this
theorem zag_zig_sgn {n : Int} (h0 : 0 ≤ n) (h1 : n < 18446744073709551616) : uns (zagF (zigF (sgn n))) = n := by
  unfold uns zagF zigF sgn
  repeat' split
  all_goals omega
theorem flt_none {k n : Int} {xs : List Int} {lm : Nat} (h : flt k n xs lm = 0) : lm = 0 ∧ ((k = 14 ∨ k = 15) → n = 0) ∧ (¬ (k = 14 ∨ k = 15) → xs = []) ∧ (k = 14 → ¬ rn xs < 0) := by
  have hv := (flt_zero h).2
  have hk := (flt_zero h).1
  have hv' := hv
  unfold vfit at hv
  rw [Bool.and_eq_true] at hv
  refine ⟨by simpa using hv.1, fun h2 => ?_, fun h2 => ?_, fun h2 h3 => ?_⟩
  · have := hv.2
    rw [if_pos h2] at this
    simpa using this
  · have := hv.2
    rw [if_neg h2, Bool.and_eq_true] at this
    exact List.eq_nil_of_length_eq_zero (by simpa using this.1)
  · unfold flt at h
    rw [if_neg (by simp [hk]), if_neg (by simp [hv']), if_pos ⟨h2, h3⟩] at h
    omega
theorem get_put {k n : Int} {xs : List Int} {lm : Nat} (rest : List Int) (h : flt k n xs lm = 0) (h0 : 0 ≤ n) (h1 : n < 18446744073709551616) (hx : xs.length < 18446744073709551616) :
    getV k (putV k n xs ++ rest) 0 = ⟨n, xs, ((putV k n xs).length : Int), 0⟩ := by
  obtain ⟨f1, f2, f3, f4⟩ := flt_none h
  have hk := (flt_zero h).1
  by_cases hb : k = 14 ∨ k = 15
  · have hn := f2 hb
    subst hn
    have e : putV k 0 xs = pc xs := by unfold putV; rw [if_neg (by omega), if_neg (by omega), if_neg (by omega), if_pos hb]
    unfold getV
    rw [e, if_pos hb, gc_at rest xs hx, if_neg (by simp), if_neg (fun h => f4 h.1 h.2)]
  · have hx0 := f3 hb
    subst hx0
    have hh := flt_holds h (fun e => hb (.inl e)) (fun e => hb (.inr e))
    have hg : getN k (putV k n [] ++ rest) 0 = (n, ((putV k n []).length : Int), 0) := by
      unfold getN putV
      by_cases c6 : k = 6 ∨ k = 7
      · have hz := sgn_bd h0 h1
        have hz0 : 0 ≤ zigF (sgn n) ∧ zigF (sgn n) < 18446744073709551616 := by unfold zigF; split <;> omega
        rw [if_pos c6, if_pos c6, gv_at rest _ hz0.1 hz0.2, zag_zig_sgn h0 h1]
      · rw [if_neg c6, if_neg c6]
        by_cases c10 : k = 10
        · subst c10
          simp [khold] at hh
          rw [if_pos (show (10 : Int) = 10 from rfl), if_pos (show (10 : Int) = 8 ∨ (10 : Int) = 10 ∨ (10 : Int) = 12 by omega), gw_any rest 4 n h0]
          have : wid (n % 2 ^ (8 * 4)) = n := by
            unfold wid
            simp only [show (2 : Int) ^ (8 * 4) = 4294967296 from rfl]
            split <;> omega
          rw [this]
        · rw [if_neg c10]
          by_cases c8 : k = 8 ∨ k = 12
          · rw [if_pos c8, if_pos (show k = 8 ∨ k = 10 ∨ k = 12 by omega), gw_any rest 4 n h0]
            have hn : n ≤ 4294967295 := by
              unfold khold at hh
              rw [if_neg (by omega), if_neg (by omega), if_pos (by omega)] at hh
              simpa using hh
            rw [show n % 2 ^ (8 * 4) = n from Int.emod_eq_of_lt h0 (by simp only [show (2 : Int) ^ (8 * 4) = 4294967296 from rfl]; omega)]
          · rw [if_neg (show ¬ (k = 8 ∨ k = 10 ∨ k = 12) by omega), if_neg c8]
            by_cases c9 : k = 9 ∨ k = 11 ∨ k = 13
            · rw [if_pos c9, if_pos c9, gw_any rest 8 n h0]
              rw [show n % 2 ^ (8 * 8) = n from Int.emod_eq_of_lt h0 (by simp only [show (2 : Int) ^ (8 * 8) = 18446744073709551616 from rfl]; omega)]
            · rw [if_neg c9, if_neg c9, if_neg hb, gv_at rest n h0 h1]
    unfold getV
    rw [if_neg hb, hg, if_neg (by simp), if_neg (by simp [hh])]
theorem p16_app : ∀ (l r : List Int) (a : Int), p16 a (l ++ r) = match p16 a l with | none => none | some m => p16 m r
  | [], r, a => by simp [p16]
  | c :: l, r, a => by
    simp only [List.cons_append, p16]
    split
    · rfl
    · exact p16_app l r _
theorem p16_hexD : ∀ (s : Nat) (n : Int), 0 ≤ n → n < 16 ^ s → p16 0 (hexD s n) = some n
  | 0, n, h0, h1 => by
    have : n = 0 := by simp at h1; omega
    subst this
    rfl
  | s + 1, n, h0, h1 => by
    have h2 : n / 16 < 16 ^ s := by
      rw [Int.pow_succ] at h1
      omega
    rw [hexD, p16_app, p16_hexD s (n / 16) (by omega) h2]
    have h3 : hx (dg (n % 16)) = n % 16 := hx_dg (by omega) (by omega)
    simp only [p16, h3]
    rw [if_neg (by omega)]
    congr 1
    omega
def u8i (b : UInt8) : Int := (b.toNat : Int)
theorem dec_all (u : Nat) : ((Lib.decDigits u).map u8i).all isDig = true ∧ dval 0 ((Lib.decDigits u).map u8i) = u ∧ (Lib.decDigits u).map u8i ≠ [] := by
  induction u using Nat.strongRecOn with
  | _ u ih =>
    rw [Lib.decDigits]
    split
    · rename_i h
      have e : u8i (UInt8.ofNat (48 + u)) = 48 + u := by unfold u8i; rw [UInt8.toNat_ofNat']; omega
      rw [List.map_singleton, e]
      simp [dval, isDig]
      omega
    · rename_i h
      obtain ⟨i1, i2, i3⟩ := ih (u / 10) (by omega)
      have e : u8i (UInt8.ofNat (48 + u % 10)) = 48 + (u % 10 : Nat) := by unfold u8i; rw [UInt8.toNat_ofNat']; omega
      rw [List.map_append, List.map_singleton, e]
      refine ⟨?_, ?_, by simp⟩
      · rw [List.all_append, i1]
        simp [isDig]
        omega
      · rw [dval_app, i2]
        simp only [dval]
        omega
theorem dec_len : ∀ (m u : Nat), u < 10 ^ (m + 1) → (Lib.decDigits u).length ≤ m + 1
  | 0, u, h => by
    rw [Lib.decDigits, dif_pos (by simpa using h)]
    simp
  | m + 1, u, h => by
    rw [Lib.decDigits]
    split
    · simp
    · have := dec_len m (u / 10) (by rw [Nat.pow_succ] at h; omega)
      simp
      omega
theorem dec_digs (u : Nat) : digs ((Lib.decDigits u).map u8i) = true := by
  obtain ⟨h1, _, h3⟩ := dec_all u
  unfold digs
  simp [h1]
  simpa using h3
theorem dec_head (u : Nat) : ((Lib.decDigits u).map u8i).head? ≠ some 45 := by
  obtain ⟨h1, _, h3⟩ := dec_all u
  cases hl : (Lib.decDigits u).map u8i with
  | nil => simp
  | cons c r =>
    rw [hl] at h1
    simp only [List.all_cons, Bool.and_eq_true, isDig, decide_eq_true_eq] at h1
    simp
    omega
/-- A value's text, as numbers. -/
def textL (k n : Int) (xs : List Int) : List Int :=
  if k = 1 then (if n = 0 then [102, 97, 108, 115, 101] else [116, 114, 117, 101])
  else if k = 12 then 102 :: hexD 8 n else if k = 13 then 100 :: hexD 16 n
  else if k = 14 ∨ k = 15 then qt xs else if kneg k = true then (Lib.itoa (sgn n)).map u8i else (Lib.decDigits n.toNat).map u8i
theorem text_L (k n : Int) (xs : List Int) : textS k n xs = strOfNums (textL k n xs) := by
  unfold textS textL
  repeat' split
  all_goals first | rfl | exact nums_u8s _
theorem u8i_bd (l : List UInt8) : ∀ x ∈ l.map u8i, 0 ≤ x ∧ x ≤ 255 := by
  intro x hx
  obtain ⟨b, _, rfl⟩ := List.mem_map.1 hx
  unfold u8i
  have := b.toNat_lt
  omega
theorem textL_bd {k n : Int} {xs : List Int} (hb : ∀ x ∈ xs, 0 ≤ x ∧ x ≤ 255) : ∀ x ∈ textL k n xs, 0 ≤ x ∧ x ≤ 255 := by
  unfold textL
  split
  · split <;> decide
  · split
    · intro x hx
      rcases List.mem_cons.1 hx with rfl | hx
      · omega
      · exact hexD_bd _ _ x hx
    · split
      · intro x hx
        rcases List.mem_cons.1 hx with rfl | hx
        · omega
        · exact hexD_bd _ _ x hx
      · split
        · intro x hx
          have := qt_bd hb x hx
          omega
        · split
          · exact u8i_bd _
          · exact u8i_bd _
theorem itoa_bd {s : Int} (h0 : -9223372036854775808 ≤ s) (h1 : s ≤ 9223372036854775807) : (Lib.itoa s).length ≤ 21 := by
  unfold Lib.itoa
  split
  · have := dec_len 19 s.natAbs (by omega)
    simp
    omega
  · have := dec_len 19 s.toNat (by omega)
    omega
theorem textL_len {k n : Int} {xs : List Int} (h0 : 0 ≤ n) (h1 : n < 18446744073709551616) : (textL k n xs).length ≤ 65536 ∨ ((k = 14 ∨ k = 15) ∧ textL k n xs = qt xs) := by
  unfold textL
  split
  · left; split <;> decide
  · split
    · left; simp [hexD_len]
    · split
      · left; simp [hexD_len]
      · split
        · rename_i h; exact .inr ⟨h, rfl⟩
        · split
          · left
            have hz := sgn_bd h0 h1
            have := itoa_bd hz.1 hz.2
            simp
            omega
          · left
            have := dec_len 19 n.toNat (by omega)
            simp
            omega
theorem pwhole_text {k n : Int} (h0 : 0 ≤ n) (h1 : n < 18446744073709551616) : pwhole k (if kneg k = true then (Lib.itoa (sgn n)).map u8i else (Lib.decDigits n.toNat).map u8i) = (n, 0) := by
  by_cases hk : kneg k = true
  · rw [if_pos hk]
    unfold pwhole Lib.itoa
    have hz := sgn_bd h0 h1
    by_cases hs : sgn n < 0
    · rw [if_pos hs]
      have hd := dec_digs (sgn n).natAbs
      have hv := (dec_all (sgn n).natAbs).2.1
      simp only [List.map_cons, List.head?_cons, List.drop_succ_cons, List.drop_zero]
      rw [if_pos ⟨hk, by rfl⟩, if_neg (by rw [hd]; decide), hv, if_pos (by omega)]
      have : uns (-((sgn n).natAbs : Int)) = n := by
        rw [show (-((sgn n).natAbs : Int)) = sgn n by omega]
        unfold uns sgn
        split <;> omega
      rw [this]
    · rw [if_neg hs]
      have hd := dec_digs (sgn n).toNat
      have hv := (dec_all (sgn n).toNat).2.1
      have hh := dec_head (sgn n).toNat
      rw [if_neg (fun h => hh h.2), if_neg (by rw [hd]; decide), hv, if_pos hk, if_pos (by omega)]
      have : ((sgn n).toNat : Int) = n := by
        unfold sgn at hs ⊢
        split <;> rename_i hc <;> simp only [hc, if_true, if_false, ite_true, ite_false] at hs <;> omega
      rw [this]
  · rw [if_neg hk]
    unfold pwhole
    have hd := dec_digs n.toNat
    have hv := (dec_all n.toNat).2.1
    have hh := dec_head n.toNat
    rw [if_neg (fun h => hh h.2), if_neg (by rw [hd]; decide), hv, if_neg hk, if_pos (by omega)]
    have : (n.toNat : Int) = n := by omega
    rw [this]
theorem parse_text {k n : Int} {xs : List Int} {lm : Nat} (h : flt k n xs lm = 0) (h0 : 0 ≤ n) (h1 : n < 18446744073709551616) (hb : ∀ x ∈ xs, 0 ≤ x ∧ x ≤ 255) :
    parseV k (textL k n xs) = if 65536 < (textL k n xs).length then .none 1 else ⟨n, xs, 0, 0⟩ := by
  obtain ⟨f1, f2, f3, f4⟩ := flt_none h
  have hk := (flt_zero h).1
  unfold parseV
  rw [if_neg (by simp [hk])]
  by_cases hq : k = 14 ∨ k = 15
  · have hn := f2 hq
    subst hn
    have e : textL k 0 xs = qt xs := by unfold textL; rw [if_neg (by omega), if_neg (by omega), if_neg (by omega), if_pos hq]
    rw [if_pos hq, e]
    by_cases hbig : 65536 < (qt xs).length
    · rw [if_pos hbig, uqE_big hbig]
      simp
    · rw [if_neg hbig, uqE_some hbig (uq_qt hb), if_neg (by simp), if_neg (fun h => f4 h.1 h.2)]
  · have hx0 := f3 hq
    subst hx0
    have hh := flt_holds h (fun e => hq (.inl e)) (fun e => hq (.inr e))
    have hl : ¬ 65536 < (textL k n []).length := by
      rcases textL_len (k := k) (xs := []) h0 h1 with h | h
      · omega
      · exact absurd h.1 hq
    rw [if_neg hq, if_neg hl]
    have hp : pnum k (textL k n []) = (n, 0) := by
      unfold pnum textL
      by_cases c1 : k = 1
      · rw [if_pos c1, if_pos c1]
        have hn : n ≤ 1 := by rw [c1] at hh; simpa [khold] using hh
        by_cases hz : n = 0
        · rw [if_pos hz, hz]; rfl
        · rw [if_neg hz, show n = 1 by omega]; rfl
      · rw [if_neg c1, if_neg c1]
        by_cases c12 : k = 12
        · rw [if_pos c12, if_pos c12]
          have hn : n ≤ 4294967295 := by rw [c12] at hh; simpa [khold] using hh
          unfold pbits
          rw [if_pos ⟨rfl, by simp [hexD_len]⟩]
          simp only [List.drop_succ_cons, List.drop_zero]
          rw [p16_hexD 8 n h0 (by simp only [show (16 : Int) ^ 8 = 4294967296 from rfl]; omega)]
        · rw [if_neg c12, if_neg c12]
          by_cases c13 : k = 13
          · rw [if_pos c13, if_pos c13]
            unfold pbits
            rw [if_pos ⟨rfl, by simp [hexD_len]⟩]
            simp only [List.drop_succ_cons, List.drop_zero]
            rw [p16_hexD 16 n h0 (by simp only [show (16 : Int) ^ 16 = 18446744073709551616 from rfl]; omega)]
          · rw [if_neg c13, if_neg c13, if_neg hq]
            exact pwhole_text h0 h1
    rw [hp, if_neg (by simp), if_neg (by simp [hh])]
end Go.Proofs.YtcenkalhklpajaaGreatDoor
