/-
  P3.4: the law's walk.
  P3.4: the law's walk at every string.
  The variables of Go's library that the rows list: what their list gives; a world that lays them.
-/
import Derived.Test.YtcenkalhklpajaaGreatDoorCUL
import Derived.Test.YtcenkalhklpajaaGreatDoorCSF
import Derived.Test.YtcenkalhklpajaaGreatDoorCG
import Derived.Test.YtcenkalhklpajaaGreatDoorRows
import Derived.Stop.LaidErr
import Derived.Lib.LaidTab
import Derived.Deep.DeepHandedRow
import Derived.Deep.DeepWitnessRowRef
import Derived.LaidLaws
namespace Go.Proofs.YtcenkalhklpajaaGreatDoor
open Go.RowKit Go.Sort
set_option maxRecDepth 1000000
set_option linter.unusedVariables false
set_option maxHeartbeats 8000000

theorem cell_kept {w w' : World} {b o : Nat} {x : Value} (hb : Below w.heap.size w w') (h : w.cell? ⟨b, o, none⟩ = some x) : w'.cell? ⟨b, o, none⟩ = some x := cell_keptG h w' hb
theorem block_lt {w : World} {b o : Nat} {x : Value} (h : w.cell? ⟨b, o, none⟩ = some x) : b < w.heap.size := World.block_lt_of_cell? _ _ h
theorem gaveP_is {w w' : World} {g : GotV} {e : Ending} (h : GaveP w g e w') : ∃ a c, e = .returned (.tuple #[.agg #[.int .u64 g.n, .slice a g.b.length c, .slice none 0 0], .int .i64 g.err]) ∧ Reads w' a g.b.length c g.b ∧ Below w.heap.size w w' := h
section
variable (k n : Int) (a am : Option Addr) (len cap lm cm : Nat) (xs : List Int) (t : ByteArray) (w : World)
theorem textsWith (x : ByteArray) (er gn ge : Int) (gb pb : List Int) (hread : Reads w a len cap xs) (hL : Laid w)
    (HTX : ∀ W : World, Reads W a len cap xs → Laid W → Calls Tryz.prog 17 #[.int .i64 k, .agg #[.int .u64 n, .slice a len cap, .slice am lm cm]] W fun e w' => e = .returned (.tuple #[.string x, .int .i64 er]) ∧ Below W.heap.size W w')
    (HPS : ∀ W : World, Laid W → Calls Tryz.prog 18 #[.int .i64 k, .string t] W fun e w' => ∃ a c, e = .returned (.tuple #[.agg #[.int .u64 gn, .slice a gb.length c, .slice none 0 0], .int .i64 ge]) ∧ Reads w' a gb.length c gb ∧ Below W.heap.size W w')
    (HPT : ∀ W : World, Reads W a len cap xs → Calls Tryz.prog 21 #[.int .i64 k, .agg #[.int .u64 n, .slice a len cap, .slice am lm cm]] W fun e w' => ∃ a c, e = .returned (.tuple #[.slice a pb.length c, .int .i64 er]) ∧ Reads w' a pb.length c pb ∧ Below W.heap.size W w')
    (HPR : ∀ W : World, Calls Tryz.prog 22 #[.int .i64 k, .string t] W fun e w' => ∃ a c, e = .returned (.tuple #[.agg #[.int .u64 gn, .slice a gb.length c, .slice none 0 0], .int .i64 ge]) ∧ Reads w' a gb.length c gb ∧ Below W.heap.size W w')
    (HRT : er = 0 → ∀ W : World, Reads W a len cap xs → Laid W → Calls Tryz.prog 23 #[.int .i64 k, .agg #[.int .u64 n, .slice a len cap, .slice am lm cm]] W fun e w' => e = .returned (.string x) ∧ Below W.heap.size W w')
    (hz : ge ≠ 0 → gn = 0 ∧ gb = []) (hx : er ≠ 0 → x = ⟨#[]⟩) :
    Calls Tryz.prog 4 #[.int .i64 k, .agg #[.int .u64 n, .slice a len cap, .slice am lm cm], .string t] w fun e w' => e = .returned (.bool true) ∧ Below w.heap.size w w' := by
  have HR := hid hread
  have HL := hid hL
  replace HTX := hid HTX
  replace HPS := hid HPS
  replace HPT := hid HPT
  replace HPR := hid HPR
  have HZ := hid hz
  clear hread hL hz
  by_cases he : er = 0
  · subst he
    replace HRT := hid (HRT rfl)
    have hsame : (x.toList != x.toList) = false := by simp
    clear hx
    go_enter Tryz.func4, Tryz.ntmps4
    go_wp2_with fail
    refine (HTX.out _ (reads_kept HR.out (below_alloc _)) (HL.out.kept (below_alloc _))).mono ?_
    rintro e w1 ⟨rfl, hb⟩
    obtain ⟨d0, d1, d2⟩ := vcells hb
    have HB := hid (below_trans (below_alloc _) hb)
    clear hb
    go_wp2_with fail
    refine (HPS.out _ (HL.out.kept HB.out)).mono ?_
    rintro e w2 ⟨pa, pc, rfl, hp, hb⟩
    replace d0 := cell_kept hb d0
    replace d1 := cell_kept hb d1
    replace d2 := cell_kept hb d2
    have hgr2 := block_lt d0
    replace HB := hid (below_trans HB.out hb)
    replace hp := hid hp
    clear hb
    go_wp2_with fail
    refine (HPT.out _ (reads_kept (reads_kept HR.out HB.out) (below_alloc _))).mono ?_
    rintro e w3 ⟨ra, rc, rfl, hr, hb⟩
    obtain ⟨f0, f1, f2⟩ := vcells hb
    replace d0 := cell_kept (below_trans (below_alloc _) hb) d0
    replace d1 := cell_kept (below_trans (below_alloc _) hb) d1
    replace d2 := cell_kept (below_trans (below_alloc _) hb) d2
    replace HB := hid (below_trans (below_trans HB.out (below_alloc _)) hb)
    replace hp := hid (reads_kept (reads_kept hp.out (below_alloc _)) hb)
    clear hb hr hgr2
    go_wp2_with fail
    refine (HPR.out _).mono ?_
    rintro e w4 ⟨xa, xc, rfl, hx, hb⟩
    replace d0 := cell_kept hb d0
    replace d1 := cell_kept hb d1
    replace d2 := cell_kept hb d2
    replace f0 := cell_kept hb f0
    replace f1 := cell_kept hb f1
    replace f2 := cell_kept hb f2
    have hgr4 := block_lt d0
    have hgr5 := block_lt f0
    replace HB := hid (below_trans HB.out hb)
    replace hp := hid (reads_kept hp.out hb)
    replace hx := hid hx
    clear hb
    go_wp2_with fail
    refine (awake3 _).mono ?_
    rintro e w5 ⟨rfl, hb⟩
    obtain ⟨g0, g1, g2⟩ := vcells hb
    replace d0 := cell_kept (below_trans (below_alloc _) hb) d0
    replace d1 := cell_kept (below_trans (below_alloc _) hb) d1
    replace d2 := cell_kept (below_trans (below_alloc _) hb) d2
    replace f0 := cell_kept (below_trans (below_alloc _) hb) f0
    replace f1 := cell_kept (below_trans (below_alloc _) hb) f1
    replace f2 := cell_kept (below_trans (below_alloc _) hb) f2
    replace HB := hid (below_trans (below_trans HB.out (below_alloc _)) hb)
    replace hp := hid (reads_kept (reads_kept hp.out (below_alloc _)) hb)
    replace hx := hid (reads_kept (reads_kept hx.out (below_alloc _)) hb)
    clear hb hgr4 hgr5
    go_wp2_with fail
    refine (HRT.out _ (reads_kept HR.out HB.out) (HL.out.kept HB.out)).mono ?_
    rintro e w6 ⟨rfl, hb⟩
    replace f0 := cell_kept hb f0
    replace f1 := cell_kept hb f1
    replace f2 := cell_kept hb f2
    replace g0 := cell_kept hb g0
    replace g1 := cell_kept hb g1
    replace g2 := cell_kept hb g2
    replace HB := hid (below_trans HB.out hb)
    replace hp := hid (reads_kept hp.out hb)
    replace hx := hid (reads_kept hx.out hb)
    clear hb
    go_wp2_with fail
    refine (toldYes gn gn pa xa none none gb.length pc gb.length xc 0 0 gb gb _ ge hp.out hx.out HZ.out (by simp)).mono ?_
    rintro e w7 ⟨rfl, hb⟩
    replace HB := hid (below_trans HB.out hb)
    clear hb
    go_wp2
    go_ret
    exact ⟨rfl, HB.out⟩
  · obtain rfl := hx he
    have hne : (er != 0) = true := by simpa using he
    have heq : (er == 0) = false := by simpa using he
    clear HRT he
    go_enter Tryz.func4, Tryz.ntmps4
    go_wp2_with fail
    refine (HTX.out _ (reads_kept HR.out (below_alloc _)) (HL.out.kept (below_alloc _))).mono ?_
    rintro e w1 ⟨rfl, hb⟩
    obtain ⟨d0, d1, d2⟩ := vcells hb
    have HB := hid (below_trans (below_alloc _) hb)
    clear hb
    go_wp2_with fail
    refine (HPS.out _ (HL.out.kept HB.out)).mono ?_
    rintro e w2 ⟨pa, pc, rfl, hp, hb⟩
    replace d0 := cell_kept hb d0
    replace d1 := cell_kept hb d1
    replace d2 := cell_kept hb d2
    have hgr2 := block_lt d0
    replace HB := hid (below_trans HB.out hb)
    replace hp := hid hp
    clear hb
    go_wp2_with fail
    refine (HPT.out _ (reads_kept (reads_kept HR.out HB.out) (below_alloc _))).mono ?_
    rintro e w3 ⟨ra, rc, rfl, hr, hb⟩
    obtain ⟨f0, f1, f2⟩ := vcells hb
    replace d0 := cell_kept (below_trans (below_alloc _) hb) d0
    replace d1 := cell_kept (below_trans (below_alloc _) hb) d1
    replace d2 := cell_kept (below_trans (below_alloc _) hb) d2
    replace HB := hid (below_trans (below_trans HB.out (below_alloc _)) hb)
    replace hp := hid (reads_kept (reads_kept hp.out (below_alloc _)) hb)
    clear hb hr hgr2
    go_wp2_with fail
    refine (HPR.out _).mono ?_
    rintro e w4 ⟨xa, xc, rfl, hx, hb⟩
    replace d0 := cell_kept hb d0
    replace d1 := cell_kept hb d1
    replace d2 := cell_kept hb d2
    replace f0 := cell_kept hb f0
    replace f1 := cell_kept hb f1
    replace f2 := cell_kept hb f2
    have hgr4 := block_lt d0
    have hgr5 := block_lt f0
    replace HB := hid (below_trans HB.out hb)
    replace hp := hid (reads_kept hp.out hb)
    replace hx := hid hx
    clear hb
    go_wp2_with fail
    refine (awake3 _).mono ?_
    rintro e w5 ⟨rfl, hb⟩
    obtain ⟨g0, g1, g2⟩ := vcells hb
    replace d0 := cell_kept (below_trans (below_alloc _) hb) d0
    replace d1 := cell_kept (below_trans (below_alloc _) hb) d1
    replace d2 := cell_kept (below_trans (below_alloc _) hb) d2
    replace f0 := cell_kept (below_trans (below_alloc _) hb) f0
    replace f1 := cell_kept (below_trans (below_alloc _) hb) f1
    replace f2 := cell_kept (below_trans (below_alloc _) hb) f2
    replace HB := hid (below_trans (below_trans HB.out (below_alloc _)) hb)
    replace hp := hid (reads_kept (reads_kept hp.out (below_alloc _)) hb)
    replace hx := hid (reads_kept (reads_kept hx.out (below_alloc _)) hb)
    clear hb hgr4 hgr5
    go_wp2_with fail
    refine (toldYes gn gn pa xa none none gb.length pc gb.length xc 0 0 gb gb _ ge hp.out hx.out HZ.out (by simp)).mono ?_
    rintro e w7 ⟨rfl, hb⟩
    replace HB := hid (below_trans HB.out hb)
    clear hb
    go_wp2
    go_ret
    exact ⟨rfl, HB.out⟩
end
theorem parseV_zero (k : Int) (ys : List Int) : (parseV k ys).err ≠ 0 → (parseV k ys).n = 0 ∧ (parseV k ys).b = [] := by
  unfold parseV
  split
  · exact fun _ => ⟨rfl, rfl⟩
  · split
    · split
      · exact fun _ => ⟨rfl, rfl⟩
      · split
        · exact fun _ => ⟨rfl, rfl⟩
        · exact fun h => absurd rfl h
    · split
      · exact fun _ => ⟨rfl, rfl⟩
      · split
        · exact fun _ => ⟨rfl, rfl⟩
        · exact fun h => absurd rfl h
theorem scalarTextsW (k n : Int) (a am : Option Addr) (len cap lm cm : Nat) (xs ys : List Int) (w : World) (h0 : 0 ≤ n) (h1 : n < 18446744073709551616) (h : Reads w a len cap xs) (hm : lm ≤ 9223372036854775807) (hlen : len ≤ 1048576) (hy : ∀ y ∈ ys, 0 ≤ y ∧ y ≤ 255) (hyl : ys.length ≤ 4194304) (hL : Laid w) :
    Calls Tryz.prog 4 #[.int .i64 k, .agg #[.int .u64 n, .slice a len cap, .slice am lm cm], .string (strOfNums ys)] w fun e w' => e = .returned (.bool true) ∧ Below w.heap.size w w' := by
  refine textsWith k n a am len cap lm cm xs (strOfNums ys) w (textE k n xs lm) (flt k n xs lm) (parseV k ys).n (parseV k ys).err (parseV k ys).b (putE k n xs lm).1 h hL (fun W hw hl => textKW k n a am len cap lm cm W xs h0 h1 hw hm hlen hl) (fun W hl => (parseKW k ys hy (by omega) W hl.syn hl.rng).mono fun e w' h => gaveP_is h) (fun W hw => (putKR k n a am len cap lm cm W xs h0 h1 hw hm (by omega)).mono fun e w' h => ?_) (fun W => (parseKR k ys hy hyl W).mono fun e w' h => gaveP_is h) (fun he W hw hl => (textKR k n a am len cap lm cm W xs h0 h1 hw hlen hl he).mono fun e w' h => ⟨by rw [h.1]; unfold textE; rw [if_pos he], h.2⟩) (parseV_zero k ys) (fun he => by unfold textE; rw [if_neg he])
  have e2 : (putE k n xs lm).2 = flt k n xs lm := by unfold putE; split <;> simp_all
  rw [← e2]
  exact h
end Go.Proofs.YtcenkalhklpajaaGreatDoor
namespace Go.Proofs.YtcenkalhklpajaaGreatDoor
open Go.RowKit
set_option maxRecDepth 1000000
set_option linter.unusedVariables false
theorem scalarTextsS (k n : Int) (a am : Option Addr) (len cap lm cm : Nat) (xs : List Int) (t : ByteArray) (w : World) (h0 : 0 ≤ n) (h1 : n < 18446744073709551616) (h : Reads w a len cap xs) (hm : lm ≤ 9223372036854775807) (hlen : len ≤ 1048576) (htl : t.data.toList.length ≤ 1048576) (hL : Laid w) :
    Calls Tryz.prog 4 #[.int .i64 k, .agg #[.int .u64 n, .slice a len cap, .slice am lm cm], .string t] w fun e w' => e = .returned (.bool true) ∧ Below w.heap.size w w' := by
  have := scalarTextsW k n a am len cap lm cm xs (numsS t) w h0 h1 h hm hlen (numsS_bd t) (by rw [numsS_len]; omega) hL
  rw [numsS_str] at this
  exact this
end Go.Proofs.YtcenkalhklpajaaGreatDoor
namespace Go.Proofs.YtcenkalhklpajaaGreatDoor
open Go.ChangeShapes Go.WideShapes Go.ChangeAt Go.RowKit
set_option maxRecDepth 1000000
set_option maxRecDepth 100000

theorem laidMet_tail {P : Program} {x : String × DataW Unit} {r : List (String × DataW Unit)} {W : World} (h : laidMet P (x :: r) W) : laidMet P r W := by
  obtain ⟨ps, ⟨g, t, cs, fuel, p, q, _, _, _, _, h5, e⟩, hnd, hrows⟩ := h
  subst e
  exact ⟨q, h5, (List.nodup_append.1 hnd).2.1, fun b off hm => hrows b off (by simp [hm])⟩
theorem gR : Tryz.prog.globalNamed "strconv.ErrRange" = some 3 := by kernel_rfl
theorem gRType : (Tryz.prog.globals[3]?).map (·.type) = some 99 := by kernel_rfl
theorem starE : "*" ++ "errors.errorString" = "*errors.errorString" := by decide
theorem ptrRow : ∀ u, Tryz.prog.typeName? 3 u = some "*errors.errorString" → u = 166 := fun u h =>
  typeName_ptr_named (nm := "errors.errorString") (by rw [starE]; kernel_rfl) (by kernel_rfl) (by decide) u (by rw [starE]; exact h)
theorem cellsE : Tryz.prog.cellsOf 168 = 1 := by kernel_rfl
theorem cellsStr : Tryz.prog.cellsOf 9 = 1 := by kernel_rfl
/-- The rows' list. -/
def laidL : List (String × DataW Unit) := [("math/bits.deBruijn32tab", Rows.laid_math_bits_deBruijn32tab), ("math/bits.deBruijn64tab", Rows.laid_math_bits_deBruijn64tab), ("internal/strconv.uint64pow10", Rows.laid_internal_strconv_uint64pow10), ("strconv.ErrRange", Rows.laid_strconv_ErrRange), ("strconv.ErrSyntax", Rows.laid_strconv_ErrSyntax)]
theorem laid_plain {W : World} (h : laidMetH Tryz.prog laidL W) : laidMet Tryz.prog laidL W := h
theorem laid_range {W : World} (h : laidMet Tryz.prog laidL W) : Sentinel W 3 := by
  obtain ⟨a, t, hv, _⟩ := laid_sentinel (laidMet_tail (laidMet_tail (laidMet_tail h))) gR gRType Tryz.underlying99 ptrRow Tryz.underlying166 Tryz.underlying168 rfl rfl Tryz.underlying9 cellsE cellsStr
  exact ⟨166, _, by simpa using World.var?_cell gR hv 0⟩
theorem gS : Tryz.prog.globalNamed "strconv.ErrSyntax" = some 2 := by kernel_rfl
theorem gSType : (Tryz.prog.globals[2]?).map (·.type) = some 99 := by kernel_rfl
theorem laid_syntax {W : World} (h : laidMet Tryz.prog laidL W) : Sentinel W 2 := by
  obtain ⟨a, t, hv, _⟩ := laid_sentinel (laidMet_tail (laidMet_tail (laidMet_tail (laidMet_tail h)))) gS gSType Tryz.underlying99 ptrRow Tryz.underlying166 Tryz.underlying168 rfl rfl Tryz.underlying9 cellsE cellsStr
  exact ⟨166, _, by simpa using World.var?_cell gS hv 0⟩
theorem gP : Tryz.prog.globalNamed "internal/strconv.uint64pow10" = some 1 := by kernel_rfl
theorem gPType : (Tryz.prog.globals[1]?).map (·.type) = some 146 := by kernel_rfl
theorem g64 : Tryz.prog.globalNamed "math/bits.deBruijn64tab" = some 5 := by kernel_rfl
theorem g64Type : (Tryz.prog.globals[5]?).map (·.type) = some 165 := by kernel_rfl
theorem laid_pow {W : World} (h : laidMet Tryz.prog laidL W) : Lib.TabIs Tryz.prog W "internal/strconv.uint64pow10" .u64 Lib.pow10Tab :=
  Lib.tabIs_of_head gP gPType Tryz.underlying146 Tryz.underlying30 (by kernel_rfl) (by kernel_rfl) (laidMet_tail (laidMet_tail h))
theorem laid_deb {W : World} (h : laidMet Tryz.prog laidL W) : W.cell? ⟨5, 15, none⟩ = some (.int .u8 4) := by
  have ht : Lib.TabIs Tryz.prog W "math/bits.deBruijn64tab" .u8 [0, 1, 56, 2, 57, 49, 28, 3, 61, 58, 42, 50, 38, 29, 17, 4, 62, 47, 59, 36, 45, 43, 51, 22, 53, 39, 33, 30, 24, 18, 12, 5, 63, 55, 48, 27, 60, 41, 37, 16, 46, 35, 44, 21, 52, 32, 23, 11, 54, 26, 40, 15, 34, 20, 31, 10, 25, 14, 19, 9, 13, 8, 7, 6] := Lib.tabIs_of_head g64 g64Type Tryz.underlying165 Tryz.underlying5 (by kernel_rfl) (by kernel_rfl) (laidMet_tail h)
  exact ht.cell g64 15 (by decide)
theorem laid_all {W : World} (h : laidMet Tryz.prog laidL W) : Laid W := ⟨laid_pow h, laid_deb h, laid_syntax h, laid_range h⟩
/-- Where the two errors' blocks lie. -/
noncomputable def low : Nat := (World.holding Tryz.prog default ⟨#[], #[], []⟩).heap.size
/-- A block's cells laid anew. -/
noncomputable def layAt (g : Nat) (cs : Array Value) (w : World) : World := { w with heap := w.heap.modify g fun
      | .cells _ t frozen => .cells cs t frozen
      | o => o }
noncomputable def laidWorld (os : Os) : World :=
  layAt 4 (List.toArray (.int .u8 0 :: .int .u8 1 :: .int .u8 28 :: .int .u8 2 :: .int .u8 29 :: .int .u8 14 :: .int .u8 24 :: .int .u8 3 :: .int .u8 30 :: .int .u8 22 :: .int .u8 20 :: .int .u8 15 :: .int .u8 25 :: .int .u8 17 :: .int .u8 4 :: .int .u8 8 :: .int .u8 31 :: .int .u8 27 :: .int .u8 13 :: .int .u8 23 :: .int .u8 21 :: .int .u8 19 :: .int .u8 16 :: .int .u8 7 :: .int .u8 26 :: .int .u8 12 :: .int .u8 18 :: .int .u8 6 :: .int .u8 11 :: .int .u8 5 :: .int .u8 10 :: .int .u8 9 :: [])) (layAt 5 (List.toArray (.int .u8 0 :: .int .u8 1 :: .int .u8 56 :: .int .u8 2 :: .int .u8 57 :: .int .u8 49 :: .int .u8 28 :: .int .u8 3 :: .int .u8 61 :: .int .u8 58 :: .int .u8 42 :: .int .u8 50 :: .int .u8 38 :: .int .u8 29 :: .int .u8 17 :: .int .u8 4 :: .int .u8 62 :: .int .u8 47 :: .int .u8 59 :: .int .u8 36 :: .int .u8 45 :: .int .u8 43 :: .int .u8 51 :: .int .u8 22 :: .int .u8 53 :: .int .u8 39 :: .int .u8 33 :: .int .u8 30 :: .int .u8 24 :: .int .u8 18 :: .int .u8 12 :: .int .u8 5 :: .int .u8 63 :: .int .u8 55 :: .int .u8 48 :: .int .u8 27 :: .int .u8 60 :: .int .u8 41 :: .int .u8 37 :: .int .u8 16 :: .int .u8 46 :: .int .u8 35 :: .int .u8 44 :: .int .u8 21 :: .int .u8 52 :: .int .u8 32 :: .int .u8 23 :: .int .u8 11 :: .int .u8 54 :: .int .u8 26 :: .int .u8 40 :: .int .u8 15 :: .int .u8 34 :: .int .u8 20 :: .int .u8 31 :: .int .u8 10 :: .int .u8 25 :: .int .u8 14 :: .int .u8 19 :: .int .u8 9 :: .int .u8 13 :: .int .u8 8 :: .int .u8 7 :: .int .u8 6 :: [])) (layAt 1 (List.toArray (.int .u64 1 :: .int .u64 10 :: .int .u64 100 :: .int .u64 1000 :: .int .u64 10000 :: .int .u64 100000 :: .int .u64 1000000 :: .int .u64 10000000 :: .int .u64 100000000 :: .int .u64 1000000000 :: .int .u64 10000000000 :: .int .u64 100000000000 :: .int .u64 1000000000000 :: .int .u64 10000000000000 :: .int .u64 100000000000000 :: .int .u64 1000000000000000 :: .int .u64 10000000000000000 :: .int .u64 100000000000000000 :: .int .u64 1000000000000000000 :: .int .u64 10000000000000000000 :: []))
    (layAt 3 #[.iface 166 (.pointer (some ⟨low, 0, none⟩))] (layAt 2 #[.iface 166 (.pointer (some ⟨low + 1, 0, none⟩))]
      (World.holding Tryz.prog os ⟨#[.cells #[.string ⟨#[118, 97, 108, 117, 101, 32, 111, 117, 116, 32, 111, 102, 32, 114, 97, 110, 103, 101]⟩] 168, .cells #[.string ⟨#[105, 110, 118, 97, 108, 105, 100, 32, 115, 121, 110, 116, 97, 120]⟩] 168], #[], []⟩)))))
theorem laid_met (os : Os) (args : Array Value) : laidMet Tryz.prog laidL ((laidWorld os).forCall (fun _ _ => 0) ⟨#[], args, []⟩).memory :=
  laidMet_of_run' 8 (by kernel_rfl) (by kernel_rfl)
end Go.Proofs.YtcenkalhklpajaaGreatDoor
