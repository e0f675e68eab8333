/-
  P3.6 without the document's own bytes: the law's walk.
  P3.6 without the document's own bytes: the law, at any value of any kind.
  Bytes in order: the mathematics; bytes.Compare and cmp.Compare.
  Compare: the program's walk and the document's.
-/
import Derived.Test.YtcenkalhklpajaaGreatDoorCUQ
import Derived.Test.YtcenkalhklpajaaGreatDoorCQK
import Derived.Lib.Bytealg
import Derived.Lib.BytesEntry
namespace Go.Proofs.YtcenkalhklpajaaGreatDoor
open Go.RowKit
set_option maxRecDepth 1000000
set_option maxHeartbeats 8000000
set_option linter.unusedVariables false

/-- Two rows of bytes appended to a new one. -/
theorem two_rows (w : World) (a b : Option Addr) (la ca lb cb : Nat) (xs ys : List Int) (ha : Reads w a la ca xs) (hb : Reads w b lb cb ys) (hma : la ≤ 4194304) (hmb : lb ≤ 4194304) :
    ∃ v6 ac cc w6 w7, (Builtin.append_ #[27, 27] 27 #[.slice (some ⟨w.heap.size, 0, none⟩) 0 0, .slice a la ca]).run Tryz.prog (w.alloc (.cells #[] 5)) = .ok v6 w6 ∧
      (Builtin.append_ #[27, 27] 27 #[v6, .slice b lb cb]).run Tryz.prog w6 = .ok (.slice ac (la + lb) cc) w7 ∧ Reads w7 ac (la + lb) cc (xs ++ ys) ∧ Below w.heap.size w w7 := by
  obtain ⟨v6, w6, r6, o6, b6⟩ := cat w _ 0 [] (w.alloc (.cells #[] 5)) a la ca xs (own_empty w) (below_alloc _) ha (by omega)
  rw [List.nil_append, Nat.zero_add] at o6
  obtain ⟨v7, w7, r7, o7, b7⟩ := cat w v6 la xs w6 b lb cb ys o6 b6 hb (by omega)
  have hbd : ∀ x ∈ xs ++ ys, 0 ≤ x ∧ x ≤ 255 := fun x hx => (List.mem_append.1 hx).elim (bd_mem ha.bd x) (bd_mem hb.bd x)
  obtain ⟨ac, cc, rfl, hrc⟩ := own_reads o7 hbd
  exact ⟨v6, ac, cc, w6, w7, r6, r7, hrc, b7⟩
section
variable (k n : Int) (a am ba : Option Addr) (len cap lm cm bl bc : Nat) (xs ys : List Int) (w : World)
theorem backBad0 (X : ByteArray) (er : Int) (hread : Reads w a len cap xs) (her : (er == 0) = false)
    (HNM : ∀ W : World, Calls Tryz.prog 15 #[.int .i64 k] W fun e w' => e = .returned (.tuple #[.string X, .int .i64 0]) ∧ W = w') (HKD : ∀ W : World, Calls Tryz.prog 16 #[.string X] W fun e w' => e = .returned (.tuple #[.int .i64 k, .int .i64 0]) ∧ W = w')
    (HPT : ∀ W : World, Reads W a len cap xs → Calls Tryz.prog 10 #[.int .i64 k, .agg #[.int .u64 n, .slice a len cap, .slice am lm cm]] W fun e w' => ∃ a c, e = .returned (.tuple #[.slice a 0 c, .int .i64 er]) ∧ Reads w' a 0 c [] ∧ Below W.heap.size W w') :
    Calls Tryz.prog 5 #[.int .i64 k, .agg #[.int .u64 n, .slice a len cap, .slice am lm cm], .slice ba bl bc] w fun e w' => e = .returned (.bool true) ∧ Below w.heap.size w w' := by
  have HR := hid hread
  replace HNM := hid HNM
  replace HKD := hid HKD
  replace HPT := hid HPT
  clear hread
  have hne : (er != 0) = true := by simpa using her
  go_enter Tryz.func5, Tryz.ntmps5
  go_wp2_with fail
  refine (awake3 _).mono ?_
  rintro e w1 ⟨rfl, hb⟩
  obtain ⟨d0, d1, d2⟩ := vcells hb
  have HB := hid (below_trans (below_alloc _) hb)
  clear hb
  go_wp2_with fail
  refine (HNM.out _).mono ?_
  rintro e w' ⟨rfl, rfl⟩
  go_wp2_with fail
  refine (HKD.out _).mono ?_
  rintro e w' ⟨rfl, rfl⟩
  go_wp2_with fail
  refine (HPT.out _ (reads_kept HR.out HB.out)).mono ?_
  rintro e w2 ⟨pa, pc, rfl, hp, hb⟩
  replace d0 := cell_kept hb d0
  replace d1 := cell_kept hb d1
  replace d2 := cell_kept hb d2
  replace HB := hid (below_trans HB.out hb)
  clear hb
  go_wp2
  go_ret
  exact ⟨rfl, HB.out⟩
theorem backGood0_0 (X T : ByteArray) (P : List Int) (pl : Nat) (hpl : P.length = pl) (hplm : pl ≤ 4194304) (hblm : bl ≤ 4194304) (hread : Reads w a len cap xs) (hbeh : Reads w ba bl bc ys) (hL : Laid w) (z : decide ((65536 : Int) < (T.size : Int)) = false) (hsz : T.size ≤ 9223372036854775807)
    (HNM : ∀ W : World, Calls Tryz.prog 15 #[.int .i64 k] W fun e w' => e = .returned (.tuple #[.string X, .int .i64 0]) ∧ W = w') (HKD : ∀ W : World, Calls Tryz.prog 16 #[.string X] W fun e w' => e = .returned (.tuple #[.int .i64 k, .int .i64 0]) ∧ W = w')
    (HPT : ∀ W : World, Reads W a len cap xs → Calls Tryz.prog 10 #[.int .i64 k, .agg #[.int .u64 n, .slice a len cap, .slice am 0 cm]] W fun e w' => ∃ a c, e = .returned (.tuple #[.slice a pl c, .int .i64 0]) ∧ Reads w' a pl c P ∧ Below W.heap.size W w')
    (HGT : ∀ (W : World) (ac : Option Addr) (cc : Nat), Reads W ac (pl + bl) cc (P ++ ys) → Calls Tryz.prog 24 #[.int .i64 k, .slice ac (pl + bl) cc, .int .i64 0] W fun e w' => ∃ a c, e = .returned (.tuple #[.agg #[.int .u64 n, .slice a xs.length c, .slice none 0 0], .int .i64 pl, .int .i64 0]) ∧ Reads w' a xs.length c xs ∧ Below W.heap.size W w')
    (HTX : ∀ W : World, Reads W a len cap xs → Laid W → Calls Tryz.prog 17 #[.int .i64 k, .agg #[.int .u64 n, .slice a len cap, .slice am 0 cm]] W fun e w' => e = .returned (.tuple #[.string T, .int .i64 0]) ∧ Below W.heap.size W w')
    (HPS : ∀ W : World, Laid W → Calls Tryz.prog 18 #[.int .i64 k, .string T] W fun e w' => ∃ a c, e = .returned (.tuple #[.agg #[.int .u64 n, .slice a xs.length c, .slice none 0 0], .int .i64 0]) ∧ Reads w' a xs.length c xs ∧ Below W.heap.size W w') :
    Calls Tryz.prog 5 #[.int .i64 k, .agg #[.int .u64 n, .slice a len cap, .slice am 0 cm], .slice ba bl bc] w fun e w' => e = .returned (.bool true) ∧ Below w.heap.size w w' := by
  have HR := hid hread
  replace HNM := hid HNM
  replace HKD := hid HKD
  replace HPT := hid HPT
  clear hread
  have HBH := hid hbeh
  have HL := hid hL
  replace HGT := hid HGT
  replace HTX := hid HTX
  replace HPS := hid HPS
  have HPL := hid hpl
  clear hbeh hL hpl
  go_enter Tryz.func5, Tryz.ntmps5
  go_wp2_with fail
  refine (awake3 _).mono ?_
  rintro e w1 ⟨rfl, hb⟩
  obtain ⟨d0, d1, d2⟩ := vcells hb
  have HB := hid (below_trans (below_alloc _) hb)
  clear hb
  go_wp2_with fail
  refine (HNM.out _).mono ?_
  rintro e w' ⟨rfl, rfl⟩
  go_wp2_with fail
  refine (HKD.out _).mono ?_
  rintro e w' ⟨rfl, rfl⟩
  go_wp2_with fail
  refine (HPT.out _ (reads_kept HR.out HB.out)).mono ?_
  rintro e w2 ⟨pa, pc, rfl, hp, hb⟩
  replace d0 := cell_kept hb d0
  replace d1 := cell_kept hb d1
  replace d2 := cell_kept hb d2
  replace HB := hid (below_trans HB.out hb)
  clear hb
  obtain ⟨v6, ac, cc, w6, w7, r6, r7, hrc, hb7⟩ := two_rows w2 pa ba pl pc bl bc P ys hp (reads_kept HBH.out HB.out) hplm hblm
  have R6 := hid r6
  have R7 := hid r7
  have HRC := hid hrc
  replace d0 := cell_kept hb7 d0
  replace d1 := cell_kept hb7 d1
  replace d2 := cell_kept hb7 d2
  replace HB := hid (below_trans HB.out hb7)
  clear r6 r7 hrc hb7 hp
  go_wp2_with (first | (at_builtin; refine wpList_append_ran rfl _ _ 27 27 rfl rfl _ _ v6 w6 rfl rfl R6.out ?_) | (at_builtin; refine wpList_append_ran rfl _ _ 27 27 rfl rfl _ _ _ w7 rfl rfl R7.out ?_))
  refine (HGT.out _ ac cc HRC.out).mono ?_
  rintro e w8 ⟨ga, gc, rfl, hg, hb⟩
  replace d0 := cell_kept hb d0
  replace d1 := cell_kept hb d1
  replace d2 := cell_kept hb d2
  have hlt8 := block_lt d0
  replace HB := hid (below_trans HB.out hb)
  have HG := hid hg
  clear hb hg HRC R6 R7
  go_wp2_with fail
  refine (HTX.out _ (reads_kept (reads_kept HR.out HB.out) (below_alloc _)) ((HL.out.kept HB.out).kept (below_alloc _))).mono ?_
  rintro e w9 ⟨rfl, hb⟩
  obtain ⟨f0, f1, f2⟩ := vcells hb
  replace d0 := cell_kept (below_trans (below_alloc _) hb) d0
  replace d1 := cell_kept (below_trans (below_alloc _) hb) d1
  replace d2 := cell_kept (below_trans (below_alloc _) hb) d2
  replace HG := hid (reads_kept (reads_kept HG.out (below_alloc _)) hb)
  replace HB := hid (below_trans (below_trans HB.out (below_alloc _)) hb)
  clear hb hlt8
  go_wp2_with fail
  refine (HPS.out _ (HL.out.kept HB.out)).mono ?_
  rintro e w10 ⟨ua, uc, rfl, hu, hb⟩
  replace d0 := cell_kept hb d0
  replace d1 := cell_kept hb d1
  replace d2 := cell_kept hb d2
  replace f0 := cell_kept hb f0
  replace f1 := cell_kept hb f1
  replace f2 := cell_kept hb f2
  have hlt10 := block_lt d0
  have hlf10 := block_lt f0
  replace HG := hid (reads_kept HG.out hb)
  replace HB := hid (below_trans HB.out hb)
  have HU := hid hu
  clear hb hu
  go_wp2_with fail
  refine (toldYes n n ga a none am xs.length gc len cap 0 cm xs xs _ 0 (reads_kept HG.out (below_alloc _)) (reads_kept (reads_kept HR.out HB.out) (below_alloc _)) (by simp) (by simp)).mono ?_
  rintro e w11 ⟨rfl, hb⟩
  obtain ⟨g0, g1, g2⟩ := vcells hb
  replace d0 := cell_kept (below_trans (below_alloc _) hb) d0
  replace d1 := cell_kept (below_trans (below_alloc _) hb) d1
  replace d2 := cell_kept (below_trans (below_alloc _) hb) d2
  replace HU := hid (reads_kept (reads_kept HU.out (below_alloc _)) hb)
  replace HB := hid (below_trans (below_trans HB.out (below_alloc _)) hb)
  clear hb hlt10 hlf10 f0 f1 f2
  go_wp2_with fail
  refine (toldYes n n ua a none am xs.length uc len cap 0 cm xs xs _ 0 HU.out (reads_kept HR.out HB.out) (by simp) (by simp)).mono ?_
  rintro e w12 ⟨rfl, hb⟩
  replace HB := hid (below_trans HB.out hb)
  clear hb
  go_wp2
  go_ret
  exact ⟨rfl, HB.out⟩
theorem backGood0_1 (X T : ByteArray) (P : List Int) (pl : Nat) (hpl : P.length = pl) (hplm : pl ≤ 4194304) (hblm : bl ≤ 4194304) (hread : Reads w a len cap xs) (hbeh : Reads w ba bl bc ys) (hL : Laid w) (z : (65536 : Int) < (T.size : Int)) (hsz : T.size ≤ 9223372036854775807)
    (HNM : ∀ W : World, Calls Tryz.prog 15 #[.int .i64 k] W fun e w' => e = .returned (.tuple #[.string X, .int .i64 0]) ∧ W = w') (HKD : ∀ W : World, Calls Tryz.prog 16 #[.string X] W fun e w' => e = .returned (.tuple #[.int .i64 k, .int .i64 0]) ∧ W = w')
    (HPT : ∀ W : World, Reads W a len cap xs → Calls Tryz.prog 10 #[.int .i64 k, .agg #[.int .u64 n, .slice a len cap, .slice am 0 cm]] W fun e w' => ∃ a c, e = .returned (.tuple #[.slice a pl c, .int .i64 0]) ∧ Reads w' a pl c P ∧ Below W.heap.size W w')
    (HGT : ∀ (W : World) (ac : Option Addr) (cc : Nat), Reads W ac (pl + bl) cc (P ++ ys) → Calls Tryz.prog 24 #[.int .i64 k, .slice ac (pl + bl) cc, .int .i64 0] W fun e w' => ∃ a c, e = .returned (.tuple #[.agg #[.int .u64 n, .slice a xs.length c, .slice none 0 0], .int .i64 pl, .int .i64 0]) ∧ Reads w' a xs.length c xs ∧ Below W.heap.size W w')
    (HTX : ∀ W : World, Reads W a len cap xs → Laid W → Calls Tryz.prog 17 #[.int .i64 k, .agg #[.int .u64 n, .slice a len cap, .slice am 0 cm]] W fun e w' => e = .returned (.tuple #[.string T, .int .i64 0]) ∧ Below W.heap.size W w')
    (HPS : ∀ W : World, Laid W → Calls Tryz.prog 18 #[.int .i64 k, .string T] W fun e w' => ∃ a c, e = .returned (.tuple #[.agg #[.int .u64 0, .slice a 0 c, .slice none 0 0], .int .i64 1]) ∧ True ∧ Below W.heap.size W w') :
    Calls Tryz.prog 5 #[.int .i64 k, .agg #[.int .u64 n, .slice a len cap, .slice am 0 cm], .slice ba bl bc] w fun e w' => e = .returned (.bool true) ∧ Below w.heap.size w w' := by
  have HR := hid hread
  replace HNM := hid HNM
  replace HKD := hid HKD
  replace HPT := hid HPT
  clear hread
  have HBH := hid hbeh
  have HL := hid hL
  replace HGT := hid HGT
  replace HTX := hid HTX
  replace HPS := hid HPS
  have HPL := hid hpl
  clear hbeh hL hpl
  go_enter Tryz.func5, Tryz.ntmps5
  go_wp2_with fail
  refine (awake3 _).mono ?_
  rintro e w1 ⟨rfl, hb⟩
  obtain ⟨d0, d1, d2⟩ := vcells hb
  have HB := hid (below_trans (below_alloc _) hb)
  clear hb
  go_wp2_with fail
  refine (HNM.out _).mono ?_
  rintro e w' ⟨rfl, rfl⟩
  go_wp2_with fail
  refine (HKD.out _).mono ?_
  rintro e w' ⟨rfl, rfl⟩
  go_wp2_with fail
  refine (HPT.out _ (reads_kept HR.out HB.out)).mono ?_
  rintro e w2 ⟨pa, pc, rfl, hp, hb⟩
  replace d0 := cell_kept hb d0
  replace d1 := cell_kept hb d1
  replace d2 := cell_kept hb d2
  replace HB := hid (below_trans HB.out hb)
  clear hb
  obtain ⟨v6, ac, cc, w6, w7, r6, r7, hrc, hb7⟩ := two_rows w2 pa ba pl pc bl bc P ys hp (reads_kept HBH.out HB.out) hplm hblm
  have R6 := hid r6
  have R7 := hid r7
  have HRC := hid hrc
  replace d0 := cell_kept hb7 d0
  replace d1 := cell_kept hb7 d1
  replace d2 := cell_kept hb7 d2
  replace HB := hid (below_trans HB.out hb7)
  clear r6 r7 hrc hb7 hp
  go_wp2_with (first | (at_builtin; refine wpList_append_ran rfl _ _ 27 27 rfl rfl _ _ v6 w6 rfl rfl R6.out ?_) | (at_builtin; refine wpList_append_ran rfl _ _ 27 27 rfl rfl _ _ _ w7 rfl rfl R7.out ?_))
  refine (HGT.out _ ac cc HRC.out).mono ?_
  rintro e w8 ⟨ga, gc, rfl, hg, hb⟩
  replace d0 := cell_kept hb d0
  replace d1 := cell_kept hb d1
  replace d2 := cell_kept hb d2
  have hlt8 := block_lt d0
  replace HB := hid (below_trans HB.out hb)
  have HG := hid hg
  clear hb hg HRC R6 R7
  go_wp2_with fail
  refine (HTX.out _ (reads_kept (reads_kept HR.out HB.out) (below_alloc _)) ((HL.out.kept HB.out).kept (below_alloc _))).mono ?_
  rintro e w9 ⟨rfl, hb⟩
  obtain ⟨f0, f1, f2⟩ := vcells hb
  replace d0 := cell_kept (below_trans (below_alloc _) hb) d0
  replace d1 := cell_kept (below_trans (below_alloc _) hb) d1
  replace d2 := cell_kept (below_trans (below_alloc _) hb) d2
  replace HG := hid (reads_kept (reads_kept HG.out (below_alloc _)) hb)
  replace HB := hid (below_trans (below_trans HB.out (below_alloc _)) hb)
  clear hb hlt8
  go_wp2_with fail
  refine (HPS.out _ (HL.out.kept HB.out)).mono ?_
  rintro e w10 ⟨ua, uc, rfl, hu, hb⟩
  replace d0 := cell_kept hb d0
  replace d1 := cell_kept hb d1
  replace d2 := cell_kept hb d2
  replace f0 := cell_kept hb f0
  replace f1 := cell_kept hb f1
  replace f2 := cell_kept hb f2
  have hlt10 := block_lt d0
  have hlf10 := block_lt f0
  replace HG := hid (reads_kept HG.out hb)
  replace HB := hid (below_trans HB.out hb)
  have HU := hid hu
  clear hb hu
  go_wp2_with fail
  refine (toldYes n n ga a none am xs.length gc len cap 0 cm xs xs _ 0 (reads_kept HG.out (below_alloc _)) (reads_kept (reads_kept HR.out HB.out) (below_alloc _)) (by simp) (by simp)).mono ?_
  rintro e w11 ⟨rfl, hb⟩
  obtain ⟨g0, g1, g2⟩ := vcells hb
  replace d0 := cell_kept (below_trans (below_alloc _) hb) d0
  replace d1 := cell_kept (below_trans (below_alloc _) hb) d1
  replace d2 := cell_kept (below_trans (below_alloc _) hb) d2
  replace HB := hid (below_trans (below_trans HB.out (below_alloc _)) hb)
  clear hb hlt10 hlf10 f0 f1 f2
  go_wp2
  go_ret
  exact ⟨rfl, HB.out⟩
theorem backBad18 (X : ByteArray) (er : Int) (hread : Reads w a len cap xs) (her : (er == 0) = false)
    (HNM : ∀ W : World, Calls Tryz.prog 15 #[.int .i64 k] W fun e w' => e = .returned (.tuple #[.string X, .int .i64 18]) ∧ W = w') 
    (HPT : ∀ W : World, Reads W a len cap xs → Calls Tryz.prog 10 #[.int .i64 k, .agg #[.int .u64 n, .slice a len cap, .slice am lm cm]] W fun e w' => ∃ a c, e = .returned (.tuple #[.slice a 0 c, .int .i64 er]) ∧ Reads w' a 0 c [] ∧ Below W.heap.size W w') :
    Calls Tryz.prog 5 #[.int .i64 k, .agg #[.int .u64 n, .slice a len cap, .slice am lm cm], .slice ba bl bc] w fun e w' => e = .returned (.bool true) ∧ Below w.heap.size w w' := by
  have HR := hid hread
  replace HNM := hid HNM
  replace HPT := hid HPT
  clear hread
  have hne : (er != 0) = true := by simpa using her
  go_enter Tryz.func5, Tryz.ntmps5
  go_wp2_with fail
  refine (awake3 _).mono ?_
  rintro e w1 ⟨rfl, hb⟩
  obtain ⟨d0, d1, d2⟩ := vcells hb
  have HB := hid (below_trans (below_alloc _) hb)
  clear hb
  go_wp2_with fail
  refine (HNM.out _).mono ?_
  rintro e w' ⟨rfl, rfl⟩
  go_wp2_with fail
  refine (HPT.out _ (reads_kept HR.out HB.out)).mono ?_
  rintro e w2 ⟨pa, pc, rfl, hp, hb⟩
  replace d0 := cell_kept hb d0
  replace d1 := cell_kept hb d1
  replace d2 := cell_kept hb d2
  replace HB := hid (below_trans HB.out hb)
  clear hb
  go_wp2
  go_ret
  exact ⟨rfl, HB.out⟩
theorem backGood18_0 (X T : ByteArray) (P : List Int) (pl : Nat) (hpl : P.length = pl) (hplm : pl ≤ 4194304) (hblm : bl ≤ 4194304) (hread : Reads w a len cap xs) (hbeh : Reads w ba bl bc ys) (hL : Laid w) (z : decide ((65536 : Int) < (T.size : Int)) = false) (hsz : T.size ≤ 9223372036854775807)
    (HNM : ∀ W : World, Calls Tryz.prog 15 #[.int .i64 k] W fun e w' => e = .returned (.tuple #[.string X, .int .i64 18]) ∧ W = w') 
    (HPT : ∀ W : World, Reads W a len cap xs → Calls Tryz.prog 10 #[.int .i64 k, .agg #[.int .u64 n, .slice a len cap, .slice am 0 cm]] W fun e w' => ∃ a c, e = .returned (.tuple #[.slice a pl c, .int .i64 0]) ∧ Reads w' a pl c P ∧ Below W.heap.size W w')
    (HGT : ∀ (W : World) (ac : Option Addr) (cc : Nat), Reads W ac (pl + bl) cc (P ++ ys) → Calls Tryz.prog 24 #[.int .i64 k, .slice ac (pl + bl) cc, .int .i64 0] W fun e w' => ∃ a c, e = .returned (.tuple #[.agg #[.int .u64 n, .slice a xs.length c, .slice none 0 0], .int .i64 pl, .int .i64 0]) ∧ Reads w' a xs.length c xs ∧ Below W.heap.size W w')
    (HTX : ∀ W : World, Reads W a len cap xs → Laid W → Calls Tryz.prog 17 #[.int .i64 k, .agg #[.int .u64 n, .slice a len cap, .slice am 0 cm]] W fun e w' => e = .returned (.tuple #[.string T, .int .i64 0]) ∧ Below W.heap.size W w')
    (HPS : ∀ W : World, Laid W → Calls Tryz.prog 18 #[.int .i64 k, .string T] W fun e w' => ∃ a c, e = .returned (.tuple #[.agg #[.int .u64 n, .slice a xs.length c, .slice none 0 0], .int .i64 0]) ∧ Reads w' a xs.length c xs ∧ Below W.heap.size W w') :
    Calls Tryz.prog 5 #[.int .i64 k, .agg #[.int .u64 n, .slice a len cap, .slice am 0 cm], .slice ba bl bc] w fun e w' => e = .returned (.bool true) ∧ Below w.heap.size w w' := by
  have HR := hid hread
  replace HNM := hid HNM
  replace HPT := hid HPT
  clear hread
  have HBH := hid hbeh
  have HL := hid hL
  replace HGT := hid HGT
  replace HTX := hid HTX
  replace HPS := hid HPS
  have HPL := hid hpl
  clear hbeh hL hpl
  go_enter Tryz.func5, Tryz.ntmps5
  go_wp2_with fail
  refine (awake3 _).mono ?_
  rintro e w1 ⟨rfl, hb⟩
  obtain ⟨d0, d1, d2⟩ := vcells hb
  have HB := hid (below_trans (below_alloc _) hb)
  clear hb
  go_wp2_with fail
  refine (HNM.out _).mono ?_
  rintro e w' ⟨rfl, rfl⟩
  go_wp2_with fail
  refine (HPT.out _ (reads_kept HR.out HB.out)).mono ?_
  rintro e w2 ⟨pa, pc, rfl, hp, hb⟩
  replace d0 := cell_kept hb d0
  replace d1 := cell_kept hb d1
  replace d2 := cell_kept hb d2
  replace HB := hid (below_trans HB.out hb)
  clear hb
  obtain ⟨v6, ac, cc, w6, w7, r6, r7, hrc, hb7⟩ := two_rows w2 pa ba pl pc bl bc P ys hp (reads_kept HBH.out HB.out) hplm hblm
  have R6 := hid r6
  have R7 := hid r7
  have HRC := hid hrc
  replace d0 := cell_kept hb7 d0
  replace d1 := cell_kept hb7 d1
  replace d2 := cell_kept hb7 d2
  replace HB := hid (below_trans HB.out hb7)
  clear r6 r7 hrc hb7 hp
  go_wp2_with (first | (at_builtin; refine wpList_append_ran rfl _ _ 27 27 rfl rfl _ _ v6 w6 rfl rfl R6.out ?_) | (at_builtin; refine wpList_append_ran rfl _ _ 27 27 rfl rfl _ _ _ w7 rfl rfl R7.out ?_))
  refine (HGT.out _ ac cc HRC.out).mono ?_
  rintro e w8 ⟨ga, gc, rfl, hg, hb⟩
  replace d0 := cell_kept hb d0
  replace d1 := cell_kept hb d1
  replace d2 := cell_kept hb d2
  have hlt8 := block_lt d0
  replace HB := hid (below_trans HB.out hb)
  have HG := hid hg
  clear hb hg HRC R6 R7
  go_wp2_with fail
  refine (HTX.out _ (reads_kept (reads_kept HR.out HB.out) (below_alloc _)) ((HL.out.kept HB.out).kept (below_alloc _))).mono ?_
  rintro e w9 ⟨rfl, hb⟩
  obtain ⟨f0, f1, f2⟩ := vcells hb
  replace d0 := cell_kept (below_trans (below_alloc _) hb) d0
  replace d1 := cell_kept (below_trans (below_alloc _) hb) d1
  replace d2 := cell_kept (below_trans (below_alloc _) hb) d2
  replace HG := hid (reads_kept (reads_kept HG.out (below_alloc _)) hb)
  replace HB := hid (below_trans (below_trans HB.out (below_alloc _)) hb)
  clear hb hlt8
  go_wp2_with fail
  refine (HPS.out _ (HL.out.kept HB.out)).mono ?_
  rintro e w10 ⟨ua, uc, rfl, hu, hb⟩
  replace d0 := cell_kept hb d0
  replace d1 := cell_kept hb d1
  replace d2 := cell_kept hb d2
  replace f0 := cell_kept hb f0
  replace f1 := cell_kept hb f1
  replace f2 := cell_kept hb f2
  have hlt10 := block_lt d0
  have hlf10 := block_lt f0
  replace HG := hid (reads_kept HG.out hb)
  replace HB := hid (below_trans HB.out hb)
  have HU := hid hu
  clear hb hu
  go_wp2_with fail
  refine (toldYes n n ga a none am xs.length gc len cap 0 cm xs xs _ 0 (reads_kept HG.out (below_alloc _)) (reads_kept (reads_kept HR.out HB.out) (below_alloc _)) (by simp) (by simp)).mono ?_
  rintro e w11 ⟨rfl, hb⟩
  obtain ⟨g0, g1, g2⟩ := vcells hb
  replace d0 := cell_kept (below_trans (below_alloc _) hb) d0
  replace d1 := cell_kept (below_trans (below_alloc _) hb) d1
  replace d2 := cell_kept (below_trans (below_alloc _) hb) d2
  replace HU := hid (reads_kept (reads_kept HU.out (below_alloc _)) hb)
  replace HB := hid (below_trans (below_trans HB.out (below_alloc _)) hb)
  clear hb hlt10 hlf10 f0 f1 f2
  go_wp2_with fail
  refine (toldYes n n ua a none am xs.length uc len cap 0 cm xs xs _ 0 HU.out (reads_kept HR.out HB.out) (by simp) (by simp)).mono ?_
  rintro e w12 ⟨rfl, hb⟩
  replace HB := hid (below_trans HB.out hb)
  clear hb
  go_wp2
  go_ret
  exact ⟨rfl, HB.out⟩
theorem backGood18_1 (X T : ByteArray) (P : List Int) (pl : Nat) (hpl : P.length = pl) (hplm : pl ≤ 4194304) (hblm : bl ≤ 4194304) (hread : Reads w a len cap xs) (hbeh : Reads w ba bl bc ys) (hL : Laid w) (z : (65536 : Int) < (T.size : Int)) (hsz : T.size ≤ 9223372036854775807)
    (HNM : ∀ W : World, Calls Tryz.prog 15 #[.int .i64 k] W fun e w' => e = .returned (.tuple #[.string X, .int .i64 18]) ∧ W = w') 
    (HPT : ∀ W : World, Reads W a len cap xs → Calls Tryz.prog 10 #[.int .i64 k, .agg #[.int .u64 n, .slice a len cap, .slice am 0 cm]] W fun e w' => ∃ a c, e = .returned (.tuple #[.slice a pl c, .int .i64 0]) ∧ Reads w' a pl c P ∧ Below W.heap.size W w')
    (HGT : ∀ (W : World) (ac : Option Addr) (cc : Nat), Reads W ac (pl + bl) cc (P ++ ys) → Calls Tryz.prog 24 #[.int .i64 k, .slice ac (pl + bl) cc, .int .i64 0] W fun e w' => ∃ a c, e = .returned (.tuple #[.agg #[.int .u64 n, .slice a xs.length c, .slice none 0 0], .int .i64 pl, .int .i64 0]) ∧ Reads w' a xs.length c xs ∧ Below W.heap.size W w')
    (HTX : ∀ W : World, Reads W a len cap xs → Laid W → Calls Tryz.prog 17 #[.int .i64 k, .agg #[.int .u64 n, .slice a len cap, .slice am 0 cm]] W fun e w' => e = .returned (.tuple #[.string T, .int .i64 0]) ∧ Below W.heap.size W w')
    (HPS : ∀ W : World, Laid W → Calls Tryz.prog 18 #[.int .i64 k, .string T] W fun e w' => ∃ a c, e = .returned (.tuple #[.agg #[.int .u64 0, .slice a 0 c, .slice none 0 0], .int .i64 1]) ∧ True ∧ Below W.heap.size W w') :
    Calls Tryz.prog 5 #[.int .i64 k, .agg #[.int .u64 n, .slice a len cap, .slice am 0 cm], .slice ba bl bc] w fun e w' => e = .returned (.bool true) ∧ Below w.heap.size w w' := by
  have HR := hid hread
  replace HNM := hid HNM
  replace HPT := hid HPT
  clear hread
  have HBH := hid hbeh
  have HL := hid hL
  replace HGT := hid HGT
  replace HTX := hid HTX
  replace HPS := hid HPS
  have HPL := hid hpl
  clear hbeh hL hpl
  go_enter Tryz.func5, Tryz.ntmps5
  go_wp2_with fail
  refine (awake3 _).mono ?_
  rintro e w1 ⟨rfl, hb⟩
  obtain ⟨d0, d1, d2⟩ := vcells hb
  have HB := hid (below_trans (below_alloc _) hb)
  clear hb
  go_wp2_with fail
  refine (HNM.out _).mono ?_
  rintro e w' ⟨rfl, rfl⟩
  go_wp2_with fail
  refine (HPT.out _ (reads_kept HR.out HB.out)).mono ?_
  rintro e w2 ⟨pa, pc, rfl, hp, hb⟩
  replace d0 := cell_kept hb d0
  replace d1 := cell_kept hb d1
  replace d2 := cell_kept hb d2
  replace HB := hid (below_trans HB.out hb)
  clear hb
  obtain ⟨v6, ac, cc, w6, w7, r6, r7, hrc, hb7⟩ := two_rows w2 pa ba pl pc bl bc P ys hp (reads_kept HBH.out HB.out) hplm hblm
  have R6 := hid r6
  have R7 := hid r7
  have HRC := hid hrc
  replace d0 := cell_kept hb7 d0
  replace d1 := cell_kept hb7 d1
  replace d2 := cell_kept hb7 d2
  replace HB := hid (below_trans HB.out hb7)
  clear r6 r7 hrc hb7 hp
  go_wp2_with (first | (at_builtin; refine wpList_append_ran rfl _ _ 27 27 rfl rfl _ _ v6 w6 rfl rfl R6.out ?_) | (at_builtin; refine wpList_append_ran rfl _ _ 27 27 rfl rfl _ _ _ w7 rfl rfl R7.out ?_))
  refine (HGT.out _ ac cc HRC.out).mono ?_
  rintro e w8 ⟨ga, gc, rfl, hg, hb⟩
  replace d0 := cell_kept hb d0
  replace d1 := cell_kept hb d1
  replace d2 := cell_kept hb d2
  have hlt8 := block_lt d0
  replace HB := hid (below_trans HB.out hb)
  have HG := hid hg
  clear hb hg HRC R6 R7
  go_wp2_with fail
  refine (HTX.out _ (reads_kept (reads_kept HR.out HB.out) (below_alloc _)) ((HL.out.kept HB.out).kept (below_alloc _))).mono ?_
  rintro e w9 ⟨rfl, hb⟩
  obtain ⟨f0, f1, f2⟩ := vcells hb
  replace d0 := cell_kept (below_trans (below_alloc _) hb) d0
  replace d1 := cell_kept (below_trans (below_alloc _) hb) d1
  replace d2 := cell_kept (below_trans (below_alloc _) hb) d2
  replace HG := hid (reads_kept (reads_kept HG.out (below_alloc _)) hb)
  replace HB := hid (below_trans (below_trans HB.out (below_alloc _)) hb)
  clear hb hlt8
  go_wp2_with fail
  refine (HPS.out _ (HL.out.kept HB.out)).mono ?_
  rintro e w10 ⟨ua, uc, rfl, hu, hb⟩
  replace d0 := cell_kept hb d0
  replace d1 := cell_kept hb d1
  replace d2 := cell_kept hb d2
  replace f0 := cell_kept hb f0
  replace f1 := cell_kept hb f1
  replace f2 := cell_kept hb f2
  have hlt10 := block_lt d0
  have hlf10 := block_lt f0
  replace HG := hid (reads_kept HG.out hb)
  replace HB := hid (below_trans HB.out hb)
  have HU := hid hu
  clear hb hu
  go_wp2_with fail
  refine (toldYes n n ga a none am xs.length gc len cap 0 cm xs xs _ 0 (reads_kept HG.out (below_alloc _)) (reads_kept (reads_kept HR.out HB.out) (below_alloc _)) (by simp) (by simp)).mono ?_
  rintro e w11 ⟨rfl, hb⟩
  obtain ⟨g0, g1, g2⟩ := vcells hb
  replace d0 := cell_kept (below_trans (below_alloc _) hb) d0
  replace d1 := cell_kept (below_trans (below_alloc _) hb) d1
  replace d2 := cell_kept (below_trans (below_alloc _) hb) d2
  replace HB := hid (below_trans (below_trans HB.out (below_alloc _)) hb)
  clear hb hlt10 hlf10 f0 f1 f2
  go_wp2
  go_ret
  exact ⟨rfl, HB.out⟩
end
end Go.Proofs.YtcenkalhklpajaaGreatDoor
namespace Go.Proofs.YtcenkalhklpajaaGreatDoor
open Go.RowKit
set_option maxRecDepth 1000000
set_option maxHeartbeats 4000000
set_option linter.unusedVariables false

theorem kind_name {k : Int} (h : 1 ≤ k ∧ k ≤ 15) : kindS (kname k) = k ∧ kindE (kname k) = 0 := by
  have : k = 1 ∨ k = 2 ∨ k = 3 ∨ k = 4 ∨ k = 5 ∨ k = 6 ∨ k = 7 ∨ k = 8 ∨ k = 9 ∨ k = 10 ∨ k = 11 ∨ k = 12 ∨ k = 13 ∨ k = 14 ∨ k = 15 := by omega
  rcases this with rfl | rfl | rfl | rfl | rfl | rfl | rfl | rfl | rfl | rfl | rfl | rfl | rfl | rfl | rfl <;> decide +kernel
theorem putV_len (k n : Int) (xs : List Int) (h0 : 0 ≤ n) (h1 : n < 18446744073709551616) (hx : xs.length < 18446744073709551616) : (putV k n xs).length ≤ xs.length + 10 := by
  unfold putV
  split
  · have hz := sgn_bd h0 h1
    have := pv_len (zigF (sgn n))
    omega
  · split
    · rw [pw_length]; omega
    · split
      · rw [pw_length]; omega
      · split
        · unfold pc
          rw [List.length_append]
          have := pv_len (xs.length : Int)
          omega
        · have := pv_len n
          omega
theorem scalarBackW (k n : Int) (a am ba : Option Addr) (len cap lm cm bl bc : Nat) (xs ys : List Int) (w : World) (h0 : 0 ≤ n) (h1 : n < 18446744073709551616) (h : Reads w a len cap xs) (hbh : Reads w ba bl bc ys) (hm : lm ≤ 9223372036854775807) (hlen : len ≤ 1048576) (hbl : bl ≤ 1048576) (hL : Laid w) :
    Calls Tryz.prog 5 #[.int .i64 k, .agg #[.int .u64 n, .slice a len cap, .slice am lm cm], .slice ba bl bc] w fun e w' => e = .returned (.bool true) ∧ Below w.heap.size w w' := by
  have hxl := h.length
  have hxb := bd_mem h.bd
  have HP : ∀ W : World, Reads W a len cap xs → Calls Tryz.prog 10 #[.int .i64 k, .agg #[.int .u64 n, .slice a len cap, .slice am lm cm]] W fun e w' => Wrote W (putE k n xs lm) e w' := fun W hW => putKW k n a am len cap lm cm W xs h0 h1 hW hm (by omega)
  by_cases hz : flt k n xs lm = 0
  · obtain ⟨hlm, _, _, _⟩ := flt_none hz
    subst hlm
    have hk := (flt_zero hz).1
    rw [putE_ok hz] at HP
    have hpl := putV_len k n xs h0 h1 (by omega)
    have HG : ∀ (W : World) (ac : Option Addr) (cc : Nat), Reads W ac ((putV k n xs).length + bl) cc (putV k n xs ++ ys) → Calls Tryz.prog 24 #[.int .i64 k, .slice ac ((putV k n xs).length + bl) cc, .int .i64 0] W fun e w' => ∃ a c, e = .returned (.tuple #[.agg #[.int .u64 n, .slice a xs.length c, .slice none 0 0], .int .i64 ((putV k n xs).length : Nat), .int .i64 0]) ∧ Reads w' a xs.length c xs ∧ Below W.heap.size W w' := by
      intro W ac cc hr
      have := getKW k ac ((putV k n xs).length + bl) cc ((0 : Nat) : Int) (putV k n xs ++ ys) W hr (by omega)
      rw [getE_in hk (by omega), get_put ys hz h0 h1 (by omega)] at this
      exact this
    have HT : ∀ W : World, Reads W a len cap xs → Laid W → Calls Tryz.prog 17 #[.int .i64 k, .agg #[.int .u64 n, .slice a len cap, .slice am 0 cm]] W fun e w' => e = .returned (.tuple #[.string (strOfNums (textL k n xs)), .int .i64 0]) ∧ Below W.heap.size W w' := by
      intro W hr hLW
      have := textKW k n a am len cap 0 cm W xs h0 h1 hr (by omega) hlen hLW
      unfold textE at this
      rw [hz, if_pos rfl, text_L] at this
      exact this
    have hsz := strOfNums_size (textL k n xs)
    have htl : (textL k n xs).length ≤ 4194306 := by
      rcases textL_len (k := k) (xs := xs) h0 h1 with h | ⟨_, h⟩
      · omega
      · rw [h, qt_len]
        have := (flat_len xs).2
        omega
    have HS : ∀ W : World, Laid W → Calls Tryz.prog 18 #[.int .i64 k, .string (strOfNums (textL k n xs))] W fun e w' => GaveP W (if 65536 < (textL k n xs).length then .none 1 else ⟨n, xs, 0, 0⟩) e w' := by
      intro W hLW
      have := parseKW k (textL k n xs) (textL_bd hxb) (by omega) W hLW.syn hLW.rng
      rw [parse_text hz h0 h1 hxb] at this
      exact this
    by_cases hbig : 65536 < (textL k n xs).length
    · rw [if_pos hbig] at HS
      have HS' : ∀ W : World, Laid W → Calls Tryz.prog 18 #[.int .i64 k, .string (strOfNums (textL k n xs))] W fun e w' => ∃ a c, e = .returned (.tuple #[.agg #[.int .u64 0, .slice a 0 c, .slice none 0 0], .int .i64 1]) ∧ True ∧ Below W.heap.size W w' := fun W hLW => (HS W hLW).mono fun e w' hh => by
        obtain ⟨a, c, e1, _, e3⟩ := hh
        exact ⟨a, c, e1, trivial, e3⟩
      by_cases hk15 : 1 ≤ k ∧ k ≤ 15
      · refine backGood0_1 k n a am ba len cap cm bl bc xs ys w (kname k) _ (putV k n xs) _ rfl (by omega) (by omega) h hbh hL (by rw [hsz]; omega) (by omega) (fun W => ?_) (fun W => ?_) HP HG HT HS'
        · have := nameW k W; rw [show knameE k = 0 by unfold knameE; rw [if_pos hk15]] at this; exact this
        · have := kindW (kname k) W; rw [(kind_name hk15).1, (kind_name hk15).2] at this; exact this
      · refine backGood18_1 k n a am ba len cap cm bl bc xs ys w (kname k) _ (putV k n xs) _ rfl (by omega) (by omega) h hbh hL (by rw [hsz]; omega) (by omega) (fun W => ?_) HP HG HT HS'
        have := nameW k W; rw [show knameE k = 18 by unfold knameE; rw [if_neg hk15]] at this; exact this
    · rw [if_neg hbig] at HS
      by_cases hk15 : 1 ≤ k ∧ k ≤ 15
      · refine backGood0_0 k n a am ba len cap cm bl bc xs ys w (kname k) _ (putV k n xs) _ rfl (by omega) (by omega) h hbh hL (by rw [hsz]; simp; omega) (by omega) (fun W => ?_) (fun W => ?_) HP HG HT HS
        · have := nameW k W; rw [show knameE k = 0 by unfold knameE; rw [if_pos hk15]] at this; exact this
        · have := kindW (kname k) W; rw [(kind_name hk15).1, (kind_name hk15).2] at this; exact this
      · refine backGood18_0 k n a am ba len cap cm bl bc xs ys w (kname k) _ (putV k n xs) _ rfl (by omega) (by omega) h hbh hL (by rw [hsz]; simp; omega) (by omega) (fun W => ?_) HP HG HT HS
        have := nameW k W; rw [show knameE k = 18 by unfold knameE; rw [if_neg hk15]] at this; exact this
  · rw [putE_err hz] at HP
    have her : (flt k n xs lm == 0) = false := by simpa using hz
    by_cases hk15 : 1 ≤ k ∧ k ≤ 15
    · refine backBad0 k n a am ba len cap lm cm bl bc xs w (kname k) _ h her (fun W => ?_) (fun W => ?_) HP
      · have := nameW k W; rw [show knameE k = 0 by unfold knameE; rw [if_pos hk15]] at this; exact this
      · have := kindW (kname k) W; rw [(kind_name hk15).1, (kind_name hk15).2] at this; exact this
    · refine backBad18 k n a am ba len cap lm cm bl bc xs w (kname k) _ h her (fun W => ?_) HP
      have := nameW k W; rw [show knameE k = 18 by unfold knameE; rw [if_neg hk15]] at this; exact this
end Go.Proofs.YtcenkalhklpajaaGreatDoor
namespace Go.Proofs.YtcenkalhklpajaaGreatDoor
open Go.RowKit
set_option maxRecDepth 1000000
set_option maxHeartbeats 2000000

def cmpX : List Int → List Int → Int
  | [], [] => 0
  | [], _ :: _ => -1
  | _ :: _, [] => 1
  | a :: l, b :: r => if a < b then -1 else if b < a then 1 else cmpX l r
def cmpI (a b : Int) : Int := if a < b then -1 else if b < a then 1 else 0

def u8s (xs : List Int) : List UInt8 := xs.map fun n => UInt8.ofNat n.toNat
theorem u8_lt {x y : Int} (hx : 0 ≤ x ∧ x ≤ 255) (hy : 0 ≤ y ∧ y ≤ 255) : (UInt8.ofNat x.toNat < UInt8.ofNat y.toNat) ↔ x < y := by
  rw [UInt8.lt_iff_toNat_lt]
  simp only [UInt8.toNat_ofNat']
  omega
theorem u8_eq {x y : Int} (hx : 0 ≤ x ∧ x ≤ 255) (hy : 0 ≤ y ∧ y ≤ 255) : (UInt8.ofNat x.toNat == UInt8.ofNat y.toNat) = decide (x = y) := by
  rw [Bool.eq_iff_iff]
  simp only [beq_iff_eq, decide_eq_true_eq]
  constructor
  · intro h
    have := congrArg UInt8.toNat h
    simp only [UInt8.toNat_ofNat'] at this
    omega
  · intro h; rw [h]
theorem cmp_u8 : ∀ (xs ys : List Int), (∀ x ∈ xs, 0 ≤ x ∧ x ≤ 255) → (∀ y ∈ ys, 0 ≤ y ∧ y ≤ 255) → Lib.compareBytes (u8s xs) (u8s ys) = cmpX xs ys
  | [], [], _, _ => rfl
  | [], _ :: _, _, _ => rfl
  | _ :: _, [], _, _ => rfl
  | x :: xs, y :: ys, hx, hy => by
    have h1 := u8_lt (hx x (by simp)) (hy y (by simp))
    have h2 := u8_lt (hy y (by simp)) (hx x (by simp))
    have ih := cmp_u8 xs ys (fun z hz => hx z (by simp [hz])) (fun z hz => hy z (by simp [hz]))
    unfold u8s at ih ⊢
    simp only [List.map_cons, Lib.compareBytes, cmpX, h1, h2, ih]
theorem less_u8 : ∀ (xs ys : List Int), (∀ x ∈ xs, 0 ≤ x ∧ x ≤ 255) → (∀ y ∈ ys, 0 ≤ y ∧ y ≤ 255) → Op.bytesLess (u8s xs) (u8s ys) = decide (cmpX xs ys = -1)
  | [], [], _, _ => by simp [u8s, Op.bytesLess, cmpX]
  | [], _ :: _, _, _ => by simp [u8s, Op.bytesLess, cmpX]
  | _ :: _, [], _, _ => by simp [u8s, Op.bytesLess, cmpX]
  | x :: xs, y :: ys, hx, hy => by
    have h1 := u8_lt (hx x (by simp)) (hy y (by simp))
    have h3 := u8_eq (hx x (by simp)) (hy y (by simp))
    have ih := less_u8 xs ys (fun z hz => hx z (by simp [hz])) (fun z hz => hy z (by simp [hz]))
    unfold u8s at ih ⊢
    simp only [List.map_cons, Op.bytesLess, cmpX, h1, h3, ih]
    by_cases a : x < y
    · simp [a]
    · by_cases b : y < x
      · have : ¬ x = y := by omega
        simp [a, b, this]
      · have : x = y := by omega
        simp [this]
theorem less_str {xs ys : List Int} (hx : ∀ x ∈ xs, 0 ≤ x ∧ x ≤ 255) (hy : ∀ y ∈ ys, 0 ≤ y ∧ y ≤ 255) : Op.bytesLess (strOfNums xs).toList (strOfNums ys).toList = decide (cmpX xs ys = -1) := by
  rw [str_list, str_list]; exact less_u8 xs ys hx hy
theorem cmpX_eq : ∀ (xs ys : List Int), cmpX xs ys = 0 ↔ xs = ys
  | [], [] => by simp [cmpX]
  | [], _ :: _ => by simp [cmpX]
  | _ :: _, [] => by simp [cmpX]
  | x :: xs, y :: ys => by
    have ih := cmpX_eq xs ys
    unfold cmpX
    by_cases a : x < y
    · simp [a]; omega
    · by_cases b : y < x
      · simp [a, b]; omega
      · have : x = y := by omega
        simp [this, ih]
theorem cmpX_val : ∀ (xs ys : List Int), cmpX xs ys = -1 ∨ cmpX xs ys = 0 ∨ cmpX xs ys = 1
  | [], [] => by simp [cmpX]
  | [], _ :: _ => by simp [cmpX]
  | _ :: _, [] => by simp [cmpX]
  | x :: xs, y :: ys => by
    have ih := cmpX_val xs ys
    unfold cmpX
    split
    · exact .inl rfl
    · split
      · exact .inr (.inr rfl)
      · exact ih
theorem cmpX_neg : ∀ (xs ys : List Int), cmpX ys xs = - cmpX xs ys
  | [], [] => by simp [cmpX]
  | [], _ :: _ => by simp [cmpX]
  | _ :: _, [] => by simp [cmpX]
  | x :: xs, y :: ys => by
    have ih := cmpX_neg xs ys
    unfold cmpX
    by_cases a : x < y
    · have b : ¬ y < x := by omega
      simp [a, b]
    · by_cases b : y < x
      · simp [a, b]
      · simp [a, b, ih]
theorem cmpX_trans : ∀ (xs ys zs : List Int), cmpX xs ys ≤ 0 → cmpX ys zs ≤ 0 → cmpX xs zs ≤ 0 ∧ (cmpX xs zs = 0 → cmpX xs ys = 0 ∧ cmpX ys zs = 0)
  | [], [], [], _, _ => by simp [cmpX]
  | [], [], _ :: _, _, _ => by simp [cmpX]
  | [], _ :: _, [], _, h => by simp [cmpX] at h
  | [], _ :: _, _ :: _, _, _ => by simp [cmpX]
  | _ :: _, [], _, h, _ => by simp [cmpX] at h
  | _ :: _, _ :: _, [], _, h => by simp [cmpX] at h
  | x :: xs, y :: ys, z :: zs, h1, h2 => by
    have ih := cmpX_trans xs ys zs
    unfold cmpX at h1 h2 ⊢
    by_cases a : x < y
    · by_cases c : y < z
      · have : x < z := by omega
        simp [this]
      · by_cases d : z < y
        · simp [c, d] at h2
        · have : x < z := by omega
          simp [this]
    · by_cases b : y < x
      · simp [a, b] at h1
      · have e : x = y := by omega
        subst e
        simp only [Int.lt_irrefl, if_false] at h1 ⊢
        by_cases c : x < z
        · simp [c]
        · by_cases d : z < x
          · simp [c, d] at h2
          · simp only [c, d, if_false] at h2 ⊢
            exact ih h1 h2
theorem cmpI_val (a b : Int) : cmpI a b = -1 ∨ cmpI a b = 0 ∨ cmpI a b = 1 := by unfold cmpI; split <;> (try split) <;> simp
theorem cmpI_eq (a b : Int) : cmpI a b = 0 ↔ a = b := by unfold cmpI; split <;> (try split) <;> simp <;> omega
theorem cmpI_neg (a b : Int) : cmpI b a = - cmpI a b := by
  unfold cmpI
  by_cases h : a < b
  · have : ¬ b < a := by omega
    simp [h, this]
  · by_cases h2 : b < a <;> simp [h, h2]
theorem cmpI_trans (a b c : Int) (h1 : cmpI a b ≤ 0) (h2 : cmpI b c ≤ 0) : cmpI a c ≤ 0 ∧ (cmpI a c = 0 → cmpI a b = 0 ∧ cmpI b c = 0) := by
  unfold cmpI at *
  split at h1 <;> split at h2 <;> (repeat' split) <;> (try split at h1) <;> (try split at h2) <;> simp_all <;> omega

theorem run_bytesOf {w : World} {a : Option Addr} {len cap : Nat} {xs : List Int} (h : Reads w a len cap xs) : (Extern.Bytes.bytesOf (.slice a len cap)).run Tryz.prog w = .ok ⟨(u8s xs).toArray⟩ w := by
  have hlen := h.length
  rcases h.cells with ⟨h0, _⟩ | ⟨b, off, rfl, hc⟩
  · subst h0
    have hx : xs = [] := List.eq_nil_of_length_eq_zero hlen
    subst hx
    cases a with
    | none => rfl
    | some x => rfl
  · have hl := Lib.run_loadBytesX (P := Tryz.prog) w xs ⟨b, off, none⟩ .empty (fun j x hj => by
      have hjl : j < xs.length := (List.getElem?_eq_some_iff.1 hj).1
      have e : (⟨b, off, none⟩ : Addr).add j = ⟨b, off + j, none⟩ := by unfold Addr.add; split <;> simp_all
      rw [e, hc j (by omega), List.getD_eq_getElem?_getD, hj]
      rfl)
    rw [hlen] at hl
    show Sem.run Tryz.prog (Extern.Bytes.loadBytes ⟨b, off, none⟩ len .empty) w = _
    rw [hl]
    have e : (ByteArray.empty.data ++ (Lib.bytesOf xs).toArray) = (u8s xs).toArray := by simp [ByteArray.empty, ByteArray.emptyWithCapacity, Lib.bytesOf, u8s]; rfl
    rw [e]
theorem bytesCmpW (a1 a2 : Option Addr) (l1 c1 l2 c2 : Nat) (xs ys : List Int) (w : World) (h1 : Reads w a1 l1 c1 xs) (h2 : Reads w a2 l2 c2 ys) :
    Calls Tryz.prog 44 #[.slice a1 l1 c1, .slice a2 l2 c2] w fun e w' => e = .returned (.int .i64 (cmpX xs ys)) ∧ w = w' := by
  have HR : Hid ((Extern.BytealgCompare.compare #[.slice a1 l1 c1, .slice a2 l2 c2]).run Tryz.prog w = .ok (.int .i64 (cmpX xs ys)) w) := by
    show _ = _
    change Sem.run Tryz.prog (do pure (goInt (Extern.BytealgCompare.cmp (← Extern.Bytes.bytesOf (.slice a1 l1 c1)) (← Extern.Bytes.bytesOf (.slice a2 l2 c2))))) w = _
    simp only [Sem.run_bind, run_bytesOf h1, run_bytesOf h2, Sem.run_pure, Result.andThen]
    rw [Lib.cmp_eq]
    show Result.ok (Value.int .i64 (Lib.compareBytes (u8s xs) (u8s ys))) w = _
    rw [cmp_u8 xs ys (bd_mem h1.bd) (bd_mem h2.bd)]
  clear h1 h2
  go_enter Tryz.func44, Tryz.ntmps44
  go_wp2
  rw [run_callFunc_extern Tryz.func79 (by kernel_rfl) (by kernel_rfl) (by kernel_rfl) (e := Extern.BytealgCompare.compare) (by kernel_rfl), HR.out]
  simp only [Result.andThen]
  rw [Oper.upon_value]
  go_wp2
  go_ret
  exact ⟨rfl, rfl⟩
theorem cmpSW (x y : Int) (w : World) : Calls Tryz.prog 45 #[.int .i64 x, .int .i64 y] w fun e w' => e = .returned (.int .i64 (cmpI x y)) ∧ w = w' := by
  have hx : (x != x) = false := by simp
  have hy : (y != y) = false := by simp
  unfold cmpI
  by_cases h1 : x < y
  · rw [if_pos h1]
    go_enter Tryz.func45, Tryz.ntmps45
    go_wp2
    go_ret
    exact ⟨rfl, rfl⟩
  · rw [if_neg h1]
    by_cases h2 : y < x
    · rw [if_pos h2]
      go_enter Tryz.func45, Tryz.ntmps45
      go_wp2
      go_ret
      exact ⟨rfl, rfl⟩
    · rw [if_neg h2]
      go_enter Tryz.func45, Tryz.ntmps45
      go_wp2
      go_ret
      exact ⟨rfl, rfl⟩
theorem cmpUW (x y : Int) (w : World) : Calls Tryz.prog 46 #[.int .u64 x, .int .u64 y] w fun e w' => e = .returned (.int .i64 (cmpI x y)) ∧ w = w' := by
  have hx : (x != x) = false := by simp
  have hy : (y != y) = false := by simp
  unfold cmpI
  by_cases h1 : x < y
  · rw [if_pos h1]
    go_enter Tryz.func46, Tryz.ntmps46
    go_wp2
    go_ret
    exact ⟨rfl, rfl⟩
  · rw [if_neg h1]
    by_cases h2 : y < x
    · rw [if_pos h2]
      go_enter Tryz.func46, Tryz.ntmps46
      go_wp2
      go_ret
      exact ⟨rfl, rfl⟩
    · rw [if_neg h2]
      go_enter Tryz.func46, Tryz.ntmps46
      go_wp2
      go_ret
      exact ⟨rfl, rfl⟩
end Go.Proofs.YtcenkalhklpajaaGreatDoor
namespace Go.Proofs.YtcenkalhklpajaaGreatDoor
open Go.RowKit
set_option maxRecDepth 1000000
set_option linter.unusedVariables false
set_option maxHeartbeats 4000000

def cmpV (k n1 n2 : Int) (xs ys : List Int) : Int := if k = 14 then cmpX xs ys else if kneg k = true then cmpI (sgn n1) (sgn n2) else cmpI n1 n2
def cmpE (k n1 n2 : Int) (xs ys : List Int) (m1 m2 : Nat) : Int × Int := if kkey k = false then (0, 18) else if vfit k n1 xs.length m1 = false ∨ vfit k n2 ys.length m2 = false then (0, 7) else (cmpV k n1 n2 xs ys, 0)
section
variable (k n1 n2 : Int) (a1 a2 p1 p2 : Option Addr) (l1 c1 l2 c2 m1 m2 q1 q2 : Nat) (xs ys : List Int) (w : World)
theorem compareW (h10 : 0 ≤ n1) (h11 : n1 < 18446744073709551616) (h20 : 0 ≤ n2) (h21 : n2 < 18446744073709551616) (hr1 : Reads w a1 l1 c1 xs) (hr2 : Reads w a2 l2 c2 ys) (hm1 : m1 ≤ 9223372036854775807) (hm2 : m2 ≤ 9223372036854775807) :
    Calls Tryz.prog 20 #[.int .i64 k, .agg #[.int .u64 n1, .slice a1 l1 c1, .slice p1 m1 q1], .agg #[.int .u64 n2, .slice a2 l2 c2, .slice p2 m2 q2]] w fun e w' => e = .returned (.tuple #[.int .i64 (cmpE k n1 n2 xs ys m1 m2).1, .int .i64 (cmpE k n1 n2 xs ys m1 m2).2]) ∧ Below w.heap.size w w' := by
  have hl1 := hr1.length
  have hl2 := hr2.length
  have HR1 := hid hr1
  have HR2 := hid hr2
  have HK := hid (fun W => isKeyW k W)
  have HN := hid (fun W => negW k W)
  have H1 := hid (fun W => fitsW k n1 a1 p1 l1 c1 m1 q1 W h10 h11 (by have := hr1.le; have := hr1.max; omega) hm1)
  have H2 := hid (fun W => fitsW k n2 a2 p2 l2 c2 m2 q2 W h20 h21 (by have := hr2.le; have := hr2.max; omega) hm2)
  have HB : Hid (Below w.heap.size w w) := hid (Below.refl _ _)
  clear hr1 hr2
  unfold cmpE
  rw [hl1, hl2]
  clear hl1 hl2
  cases hk : kkey k with
  | false =>
    rw [if_pos rfl]
    rw [hk] at HK
    clear hk
    go_enter Tryz.func20, Tryz.ntmps20
    go_wp2_with (first | (go_at_call 9; refine (HK.out _).mono ?_; rintro e w' ⟨rfl, rfl⟩))
    go_ret2
    exact ⟨rfl, below_two _ _⟩
  | true =>
    rw [hk] at HK
    rw [if_neg (by simp)]
    cases hv1 : vfit k n1 l1 m1 with
    | false =>
      rw [if_pos (.inl rfl)]
      rw [hv1] at H1
      clear hk hv1
      go_enter Tryz.func20, Tryz.ntmps20
      go_wp2_with (first | (go_at_call 9; refine (HK.out _).mono ?_; rintro e w' ⟨rfl, rfl⟩) | (go_at_call 43; refine (H1.out _).mono ?_; rintro e w2 ⟨rfl, hb⟩; obtain ⟨⟨d0, d1, d2⟩, ⟨f0, f1, f2⟩, _, _, _, hbel⟩ := two_cells hb; replace HB := hid hbel; clear hb hbel))
      go_ret2
      exact ⟨rfl, HB.out⟩
    | true =>
      rw [hv1] at H1
      cases hv2 : vfit k n2 l2 m2 with
      | false =>
        rw [if_pos (.inr rfl)]
        rw [hv2] at H2
        clear hk hv1 hv2
        go_enter Tryz.func20, Tryz.ntmps20
        go_wp2_with fail
        refine (HK.out _).mono ?_
        rintro e w' ⟨rfl, rfl⟩
        go_wp2_with fail
        refine (H1.out _).mono ?_
        rintro e w2 ⟨rfl, hb⟩
        obtain ⟨⟨d0, d1, d2⟩, ⟨f0, f1, f2⟩, _, _, _, hbel⟩ := two_cells hb
        replace HB := hid hbel
        clear hb hbel
        go_wp2_with fail
        refine (H2.out _).mono ?_
        rintro e w3 ⟨rfl, hb⟩
        replace d0 := cell_kept hb d0
        replace d1 := cell_kept hb d1
        replace f0 := cell_kept hb f0
        replace f1 := cell_kept hb f1
        replace HB := hid (below_trans HB.out hb)
        clear hb d2 f2
        go_wp2
        go_ret2
        exact ⟨rfl, HB.out⟩
      | true =>
        rw [if_neg (by simp)]
        rw [hv2] at H2
        clear hk hv1 hv2
        unfold cmpV
        by_cases h14 : k = 14
        · subst h14
          rw [if_pos rfl]
          go_enter Tryz.func20, Tryz.ntmps20
          go_wp2_with fail
          refine (HK.out _).mono ?_
          rintro e w' ⟨rfl, rfl⟩
          go_wp2_with fail
          refine (H1.out _).mono ?_
          rintro e w2 ⟨rfl, hb⟩
          obtain ⟨⟨d0, d1, d2⟩, ⟨f0, f1, f2⟩, _, _, _, hbel⟩ := two_cells hb
          replace HB := hid hbel
          clear hb hbel
          go_wp2_with fail
          refine (H2.out _).mono ?_
          rintro e w3 ⟨rfl, hb⟩
          replace d0 := cell_kept hb d0
          replace d1 := cell_kept hb d1
          replace f0 := cell_kept hb f0
          replace f1 := cell_kept hb f1
          replace HB := hid (below_trans HB.out hb)
          clear hb d2 f2
          go_wp2_with (go_at_call 44; refine (bytesCmpW a1 a2 l1 c1 l2 c2 xs ys _ (reads_kept HR1.out HB.out) (reads_kept HR2.out HB.out)).mono ?_; rintro e w' ⟨rfl, rfl⟩)
          go_ret2
          exact ⟨rfl, HB.out⟩
        · rw [if_neg h14]
          have e14 : (k == 14) = false := by simpa using h14
          have hs1 := wrap64_sgn n1 h10 h11
          have hs2 := wrap64_sgn n2 h20 h21
          cases hn : kneg k with
          | true =>
            rw [if_pos rfl]
            rw [hn] at HN
            clear hn h14
            go_enter Tryz.func20, Tryz.ntmps20
            go_wp2_with fail
            refine (HK.out _).mono ?_
            rintro e w' ⟨rfl, rfl⟩
            go_wp2_with fail
            refine (H1.out _).mono ?_
            rintro e w2 ⟨rfl, hb⟩
            obtain ⟨⟨d0, d1, d2⟩, ⟨f0, f1, f2⟩, _, _, _, hbel⟩ := two_cells hb
            replace HB := hid hbel
            clear hb hbel
            go_wp2_with fail
            refine (H2.out _).mono ?_
            rintro e w3 ⟨rfl, hb⟩
            replace d0 := cell_kept hb d0
            replace d1 := cell_kept hb d1
            replace f0 := cell_kept hb f0
            replace f1 := cell_kept hb f1
            replace HB := hid (below_trans HB.out hb)
            clear hb d2 f2
            go_wp2_with (first | (go_at_call 34; refine (HN.out _).mono ?_; rintro e w' ⟨rfl, rfl⟩) | (go_at_call 45; refine (cmpSW _ _ _).mono ?_; rintro e w' ⟨rfl, rfl⟩))
            go_ret2
            exact ⟨rfl, HB.out⟩
          | false =>
            rw [if_neg (by simp)]
            rw [hn] at HN
            clear hn h14
            go_enter Tryz.func20, Tryz.ntmps20
            go_wp2_with fail
            refine (HK.out _).mono ?_
            rintro e w' ⟨rfl, rfl⟩
            go_wp2_with fail
            refine (H1.out _).mono ?_
            rintro e w2 ⟨rfl, hb⟩
            obtain ⟨⟨d0, d1, d2⟩, ⟨f0, f1, f2⟩, _, _, _, hbel⟩ := two_cells hb
            replace HB := hid hbel
            clear hb hbel
            go_wp2_with fail
            refine (H2.out _).mono ?_
            rintro e w3 ⟨rfl, hb⟩
            replace d0 := cell_kept hb d0
            replace d1 := cell_kept hb d1
            replace f0 := cell_kept hb f0
            replace f1 := cell_kept hb f1
            replace HB := hid (below_trans HB.out hb)
            clear hb d2 f2
            go_wp2_with (first | (go_at_call 34; refine (HN.out _).mono ?_; rintro e w' ⟨rfl, rfl⟩) | (go_at_call 46; refine (cmpUW _ _ _).mono ?_; rintro e w' ⟨rfl, rfl⟩))
            go_ret2
            exact ⟨rfl, HB.out⟩
end
end Go.Proofs.YtcenkalhklpajaaGreatDoor
