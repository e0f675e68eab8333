/-
  P3.6 without the document's own bytes: the law's walk.
  P3.6 without the document's own bytes: the law, at any value of any kind.
-/
import Derived.Test.YtcenkalhklpajaaGreatDoorCUQ
namespace Go.Proofs.YtcenkalhklpajaaGreatDoor
open Go.RowKit
set_option maxRecDepth 1000000
set_option maxHeartbeats 8000000
set_option linter.unusedVariables false

/-- Two rows of bytes appended to a new one. -/
theorem two_rows (w : World) (a b : Option Addr) (la ca lb cb : Nat) (xs ys : List Int) (ha : Reads w a la ca xs) (hb : Reads w b lb cb ys) (hma : la ≤ 4194304) (hmb : lb ≤ 4194304) :
    ∃ v6 ac cc w6 w7, (Builtin.append_ #[27, 27] 27 #[.slice (some ⟨w.heap.size, 0, none⟩) 0 0, .slice a la ca]).run Tryz.prog (w.alloc (.cells #[] 5)) = .ok v6 w6 ∧
      (Builtin.append_ #[27, 27] 27 #[v6, .slice b lb cb]).run Tryz.prog w6 = .ok (.slice ac (la + lb) cc) w7 ∧ Reads w7 ac (la + lb) cc (xs ++ ys) ∧ Below w.heap.size w w7 := by
  obtain ⟨v6, w6, r6, o6, b6⟩ := cat w _ 0 [] (w.alloc (.cells #[] 5)) a la ca xs (own_empty w) (below_alloc _) ha (by omega)
  rw [List.nil_append, Nat.zero_add] at o6
  obtain ⟨v7, w7, r7, o7, b7⟩ := cat w v6 la xs w6 b lb cb ys o6 b6 hb (by omega)
  have hbd : ∀ x ∈ xs ++ ys, 0 ≤ x ∧ x ≤ 255 := fun x hx => (List.mem_append.1 hx).elim (bd_mem ha.bd x) (bd_mem hb.bd x)
  obtain ⟨ac, cc, rfl, hrc⟩ := own_reads o7 hbd
  exact ⟨v6, ac, cc, w6, w7, r6, r7, hrc, b7⟩
section
variable (k n : Int) (a am ba : Option Addr) (len cap lm cm bl bc : Nat) (xs ys : List Int) (w : World)
theorem backBad0 (X : ByteArray) (er : Int) (hread : Reads w a len cap xs) (her : (er == 0) = false)
    (HNM : ∀ W : World, Calls Tryz.prog 15 #[.int .i64 k] W fun e w' => e = .returned (.tuple #[.string X, .int .i64 0]) ∧ W = w') (HKD : ∀ W : World, Calls Tryz.prog 16 #[.string X] W fun e w' => e = .returned (.tuple #[.int .i64 k, .int .i64 0]) ∧ W = w')
    (HPT : ∀ W : World, Reads W a len cap xs → Calls Tryz.prog 10 #[.int .i64 k, .agg #[.int .u64 n, .slice a len cap, .slice am lm cm]] W fun e w' => ∃ a c, e = .returned (.tuple #[.slice a 0 c, .int .i64 er]) ∧ Reads w' a 0 c [] ∧ Below W.heap.size W w') :
    Calls Tryz.prog 5 #[.int .i64 k, .agg #[.int .u64 n, .slice a len cap, .slice am lm cm], .slice ba bl bc] w fun e w' => e = .returned (.bool true) ∧ Below w.heap.size w w' := by
  have HR := hid hread
  replace HNM := hid HNM
  replace HKD := hid HKD
  replace HPT := hid HPT
  clear hread
  have hne : (er != 0) = true := by simpa using her
  go_enter Tryz.func5, Tryz.ntmps5
  go_wp2_with fail
  refine (awake3 _).mono ?_
  rintro e w1 ⟨rfl, hb⟩
  obtain ⟨d0, d1, d2⟩ := vcells hb
  have HB := hid (below_trans (below_alloc _) hb)
  clear hb
  go_wp2_with fail
  refine (HNM.out _).mono ?_
  rintro e w' ⟨rfl, rfl⟩
  go_wp2_with fail
  refine (HKD.out _).mono ?_
  rintro e w' ⟨rfl, rfl⟩
  go_wp2_with fail
  refine (HPT.out _ (reads_kept HR.out HB.out)).mono ?_
  rintro e w2 ⟨pa, pc, rfl, hp, hb⟩
  replace d0 := cell_kept hb d0
  replace d1 := cell_kept hb d1
  replace d2 := cell_kept hb d2
  replace HB := hid (below_trans HB.out hb)
  clear hb
  go_wp2
  go_ret
  exact ⟨rfl, HB.out⟩
theorem backGood0_0 (X T : ByteArray) (P : List Int) (pl : Nat) (hpl : P.length = pl) (hplm : pl ≤ 4194304) (hblm : bl ≤ 4194304) (hread : Reads w a len cap xs) (hbeh : Reads w ba bl bc ys) (hL : Laid w) (z : decide ((65536 : Int) < (T.size : Int)) = false) (hsz : T.size ≤ 9223372036854775807)
    (HNM : ∀ W : World, Calls Tryz.prog 15 #[.int .i64 k] W fun e w' => e = .returned (.tuple #[.string X, .int .i64 0]) ∧ W = w') (HKD : ∀ W : World, Calls Tryz.prog 16 #[.string X] W fun e w' => e = .returned (.tuple #[.int .i64 k, .int .i64 0]) ∧ W = w')
    (HPT : ∀ W : World, Reads W a len cap xs → Calls Tryz.prog 10 #[.int .i64 k, .agg #[.int .u64 n, .slice a len cap, .slice am 0 cm]] W fun e w' => ∃ a c, e = .returned (.tuple #[.slice a pl c, .int .i64 0]) ∧ Reads w' a pl c P ∧ Below W.heap.size W w')
    (HGT : ∀ (W : World) (ac : Option Addr) (cc : Nat), Reads W ac (pl + bl) cc (P ++ ys) → Calls Tryz.prog 24 #[.int .i64 k, .slice ac (pl + bl) cc, .int .i64 0] W fun e w' => ∃ a c, e = .returned (.tuple #[.agg #[.int .u64 n, .slice a xs.length c, .slice none 0 0], .int .i64 pl, .int .i64 0]) ∧ Reads w' a xs.length c xs ∧ Below W.heap.size W w')
    (HTX : ∀ W : World, Reads W a len cap xs → Laid W → Calls Tryz.prog 17 #[.int .i64 k, .agg #[.int .u64 n, .slice a len cap, .slice am 0 cm]] W fun e w' => e = .returned (.tuple #[.string T, .int .i64 0]) ∧ Below W.heap.size W w')
    (HPS : ∀ W : World, Laid W → Calls Tryz.prog 18 #[.int .i64 k, .string T] W fun e w' => ∃ a c, e = .returned (.tuple #[.agg #[.int .u64 n, .slice a xs.length c, .slice none 0 0], .int .i64 0]) ∧ Reads w' a xs.length c xs ∧ Below W.heap.size W w') :
    Calls Tryz.prog 5 #[.int .i64 k, .agg #[.int .u64 n, .slice a len cap, .slice am 0 cm], .slice ba bl bc] w fun e w' => e = .returned (.bool true) ∧ Below w.heap.size w w' := by
  have HR := hid hread
  replace HNM := hid HNM
  replace HKD := hid HKD
  replace HPT := hid HPT
  clear hread
  have HBH := hid hbeh
  have HL := hid hL
  replace HGT := hid HGT
  replace HTX := hid HTX
  replace HPS := hid HPS
  have HPL := hid hpl
  clear hbeh hL hpl
  go_enter Tryz.func5, Tryz.ntmps5
  go_wp2_with fail
  refine (awake3 _).mono ?_
  rintro e w1 ⟨rfl, hb⟩
  obtain ⟨d0, d1, d2⟩ := vcells hb
  have HB := hid (below_trans (below_alloc _) hb)
  clear hb
  go_wp2_with fail
  refine (HNM.out _).mono ?_
  rintro e w' ⟨rfl, rfl⟩
  go_wp2_with fail
  refine (HKD.out _).mono ?_
  rintro e w' ⟨rfl, rfl⟩
  go_wp2_with fail
  refine (HPT.out _ (reads_kept HR.out HB.out)).mono ?_
  rintro e w2 ⟨pa, pc, rfl, hp, hb⟩
  replace d0 := cell_kept hb d0
  replace d1 := cell_kept hb d1
  replace d2 := cell_kept hb d2
  replace HB := hid (below_trans HB.out hb)
  clear hb
  obtain ⟨v6, ac, cc, w6, w7, r6, r7, hrc, hb7⟩ := two_rows w2 pa ba pl pc bl bc P ys hp (reads_kept HBH.out HB.out) hplm hblm
  have R6 := hid r6
  have R7 := hid r7
  have HRC := hid hrc
  replace d0 := cell_kept hb7 d0
  replace d1 := cell_kept hb7 d1
  replace d2 := cell_kept hb7 d2
  replace HB := hid (below_trans HB.out hb7)
  clear r6 r7 hrc hb7 hp
  go_wp2_with (first | (at_builtin; refine wpList_append_ran rfl _ _ 27 27 rfl rfl _ _ v6 w6 rfl rfl R6.out ?_) | (at_builtin; refine wpList_append_ran rfl _ _ 27 27 rfl rfl _ _ _ w7 rfl rfl R7.out ?_))
  refine (HGT.out _ ac cc HRC.out).mono ?_
  rintro e w8 ⟨ga, gc, rfl, hg, hb⟩
  replace d0 := cell_kept hb d0
  replace d1 := cell_kept hb d1
  replace d2 := cell_kept hb d2
  have hlt8 := block_lt d0
  replace HB := hid (below_trans HB.out hb)
  have HG := hid hg
  clear hb hg HRC R6 R7
  go_wp2_with fail
  refine (HTX.out _ (reads_kept (reads_kept HR.out HB.out) (below_alloc _)) ((HL.out.kept HB.out).kept (below_alloc _))).mono ?_
  rintro e w9 ⟨rfl, hb⟩
  obtain ⟨f0, f1, f2⟩ := vcells hb
  replace d0 := cell_kept (below_trans (below_alloc _) hb) d0
  replace d1 := cell_kept (below_trans (below_alloc _) hb) d1
  replace d2 := cell_kept (below_trans (below_alloc _) hb) d2
  replace HG := hid (reads_kept (reads_kept HG.out (below_alloc _)) hb)
  replace HB := hid (below_trans (below_trans HB.out (below_alloc _)) hb)
  clear hb hlt8
  go_wp2_with fail
  refine (HPS.out _ (HL.out.kept HB.out)).mono ?_
  rintro e w10 ⟨ua, uc, rfl, hu, hb⟩
  replace d0 := cell_kept hb d0
  replace d1 := cell_kept hb d1
  replace d2 := cell_kept hb d2
  replace f0 := cell_kept hb f0
  replace f1 := cell_kept hb f1
  replace f2 := cell_kept hb f2
  have hlt10 := block_lt d0
  have hlf10 := block_lt f0
  replace HG := hid (reads_kept HG.out hb)
  replace HB := hid (below_trans HB.out hb)
  have HU := hid hu
  clear hb hu
  go_wp2_with fail
  refine (toldYes n n ga a none am xs.length gc len cap 0 cm xs xs _ 0 (reads_kept HG.out (below_alloc _)) (reads_kept (reads_kept HR.out HB.out) (below_alloc _)) (by simp) (by simp)).mono ?_
  rintro e w11 ⟨rfl, hb⟩
  obtain ⟨g0, g1, g2⟩ := vcells hb
  replace d0 := cell_kept (below_trans (below_alloc _) hb) d0
  replace d1 := cell_kept (below_trans (below_alloc _) hb) d1
  replace d2 := cell_kept (below_trans (below_alloc _) hb) d2
  replace HU := hid (reads_kept (reads_kept HU.out (below_alloc _)) hb)
  replace HB := hid (below_trans (below_trans HB.out (below_alloc _)) hb)
  clear hb hlt10 hlf10 f0 f1 f2
  go_wp2_with fail
  refine (toldYes n n ua a none am xs.length uc len cap 0 cm xs xs _ 0 HU.out (reads_kept HR.out HB.out) (by simp) (by simp)).mono ?_
  rintro e w12 ⟨rfl, hb⟩
  replace HB := hid (below_trans HB.out hb)
  clear hb
  go_wp2
  go_ret
  exact ⟨rfl, HB.out⟩
theorem backGood0_1 (X T : ByteArray) (P : List Int) (pl : Nat) (hpl : P.length = pl) (hplm : pl ≤ 4194304) (hblm : bl ≤ 4194304) (hread : Reads w a len cap xs) (hbeh : Reads w ba bl bc ys) (hL : Laid w) (z : (65536 : Int) < (T.size : Int)) (hsz : T.size ≤ 9223372036854775807)
    (HNM : ∀ W : World, Calls Tryz.prog 15 #[.int .i64 k] W fun e w' => e = .returned (.tuple #[.string X, .int .i64 0]) ∧ W = w') (HKD : ∀ W : World, Calls Tryz.prog 16 #[.string X] W fun e w' => e = .returned (.tuple #[.int .i64 k, .int .i64 0]) ∧ W = w')
    (HPT : ∀ W : World, Reads W a len cap xs → Calls Tryz.prog 10 #[.int .i64 k, .agg #[.int .u64 n, .slice a len cap, .slice am 0 cm]] W fun e w' => ∃ a c, e = .returned (.tuple #[.slice a pl c, .int .i64 0]) ∧ Reads w' a pl c P ∧ Below W.heap.size W w')
    (HGT : ∀ (W : World) (ac : Option Addr) (cc : Nat), Reads W ac (pl + bl) cc (P ++ ys) → Calls Tryz.prog 24 #[.int .i64 k, .slice ac (pl + bl) cc, .int .i64 0] W fun e w' => ∃ a c, e = .returned (.tuple #[.agg #[.int .u64 n, .slice a xs.length c, .slice none 0 0], .int .i64 pl, .int .i64 0]) ∧ Reads w' a xs.length c xs ∧ Below W.heap.size W w')
    (HTX : ∀ W : World, Reads W a len cap xs → Laid W → Calls Tryz.prog 17 #[.int .i64 k, .agg #[.int .u64 n, .slice a len cap, .slice am 0 cm]] W fun e w' => e = .returned (.tuple #[.string T, .int .i64 0]) ∧ Below W.heap.size W w')
    (HPS : ∀ W : World, Laid W → Calls Tryz.prog 18 #[.int .i64 k, .string T] W fun e w' => ∃ a c, e = .returned (.tuple #[.agg #[.int .u64 0, .slice a 0 c, .slice none 0 0], .int .i64 1]) ∧ True ∧ Below W.heap.size W w') :
    Calls Tryz.prog 5 #[.int .i64 k, .agg #[.int .u64 n, .slice a len cap, .slice am 0 cm], .slice ba bl bc] w fun e w' => e = .returned (.bool true) ∧ Below w.heap.size w w' := by
  have HR := hid hread
  replace HNM := hid HNM
  replace HKD := hid HKD
  replace HPT := hid HPT
  clear hread
  have HBH := hid hbeh
  have HL := hid hL
  replace HGT := hid HGT
  replace HTX := hid HTX
  replace HPS := hid HPS
  have HPL := hid hpl
  clear hbeh hL hpl
  go_enter Tryz.func5, Tryz.ntmps5
  go_wp2_with fail
  refine (awake3 _).mono ?_
  rintro e w1 ⟨rfl, hb⟩
  obtain ⟨d0, d1, d2⟩ := vcells hb
  have HB := hid (below_trans (below_alloc _) hb)
  clear hb
  go_wp2_with fail
  refine (HNM.out _).mono ?_
  rintro e w' ⟨rfl, rfl⟩
  go_wp2_with fail
  refine (HKD.out _).mono ?_
  rintro e w' ⟨rfl, rfl⟩
  go_wp2_with fail
  refine (HPT.out _ (reads_kept HR.out HB.out)).mono ?_
  rintro e w2 ⟨pa, pc, rfl, hp, hb⟩
  replace d0 := cell_kept hb d0
  replace d1 := cell_kept hb d1
  replace d2 := cell_kept hb d2
  replace HB := hid (below_trans HB.out hb)
  clear hb
  obtain ⟨v6, ac, cc, w6, w7, r6, r7, hrc, hb7⟩ := two_rows w2 pa ba pl pc bl bc P ys hp (reads_kept HBH.out HB.out) hplm hblm
  have R6 := hid r6
  have R7 := hid r7
  have HRC := hid hrc
  replace d0 := cell_kept hb7 d0
  replace d1 := cell_kept hb7 d1
  replace d2 := cell_kept hb7 d2
  replace HB := hid (below_trans HB.out hb7)
  clear r6 r7 hrc hb7 hp
  go_wp2_with (first | (at_builtin; refine wpList_append_ran rfl _ _ 27 27 rfl rfl _ _ v6 w6 rfl rfl R6.out ?_) | (at_builtin; refine wpList_append_ran rfl _ _ 27 27 rfl rfl _ _ _ w7 rfl rfl R7.out ?_))
  refine (HGT.out _ ac cc HRC.out).mono ?_
  rintro e w8 ⟨ga, gc, rfl, hg, hb⟩
  replace d0 := cell_kept hb d0
  replace d1 := cell_kept hb d1
  replace d2 := cell_kept hb d2
  have hlt8 := block_lt d0
  replace HB := hid (below_trans HB.out hb)
  have HG := hid hg
  clear hb hg HRC R6 R7
  go_wp2_with fail
  refine (HTX.out _ (reads_kept (reads_kept HR.out HB.out) (below_alloc _)) ((HL.out.kept HB.out).kept (below_alloc _))).mono ?_
  rintro e w9 ⟨rfl, hb⟩
  obtain ⟨f0, f1, f2⟩ := vcells hb
  replace d0 := cell_kept (below_trans (below_alloc _) hb) d0
  replace d1 := cell_kept (below_trans (below_alloc _) hb) d1
  replace d2 := cell_kept (below_trans (below_alloc _) hb) d2
  replace HG := hid (reads_kept (reads_kept HG.out (below_alloc _)) hb)
  replace HB := hid (below_trans (below_trans HB.out (below_alloc _)) hb)
  clear hb hlt8
  go_wp2_with fail
  refine (HPS.out _ (HL.out.kept HB.out)).mono ?_
  rintro e w10 ⟨ua, uc, rfl, hu, hb⟩
  replace d0 := cell_kept hb d0
  replace d1 := cell_kept hb d1
  replace d2 := cell_kept hb d2
  replace f0 := cell_kept hb f0
  replace f1 := cell_kept hb f1
  replace f2 := cell_kept hb f2
  have hlt10 := block_lt d0
  have hlf10 := block_lt f0
  replace HG := hid (reads_kept HG.out hb)
  replace HB := hid (below_trans HB.out hb)
  have HU := hid hu
  clear hb hu
  go_wp2_with fail
  refine (toldYes n n ga a none am xs.length gc len cap 0 cm xs xs _ 0 (reads_kept HG.out (below_alloc _)) (reads_kept (reads_kept HR.out HB.out) (below_alloc _)) (by simp) (by simp)).mono ?_
  rintro e w11 ⟨rfl, hb⟩
  obtain ⟨g0, g1, g2⟩ := vcells hb
  replace d0 := cell_kept (below_trans (below_alloc _) hb) d0
  replace d1 := cell_kept (below_trans (below_alloc _) hb) d1
  replace d2 := cell_kept (below_trans (below_alloc _) hb) d2
  replace HB := hid (below_trans (below_trans HB.out (below_alloc _)) hb)
  clear hb hlt10 hlf10 f0 f1 f2
  go_wp2
  go_ret
  exact ⟨rfl, HB.out⟩
theorem backBad18 (X : ByteArray) (er : Int) (hread : Reads w a len cap xs) (her : (er == 0) = false)
    (HNM : ∀ W : World, Calls Tryz.prog 15 #[.int .i64 k] W fun e w' => e = .returned (.tuple #[.string X, .int .i64 18]) ∧ W = w') 
    (HPT : ∀ W : World, Reads W a len cap xs → Calls Tryz.prog 10 #[.int .i64 k, .agg #[.int .u64 n, .slice a len cap, .slice am lm cm]] W fun e w' => ∃ a c, e = .returned (.tuple #[.slice a 0 c, .int .i64 er]) ∧ Reads w' a 0 c [] ∧ Below W.heap.size W w') :
    Calls Tryz.prog 5 #[.int .i64 k, .agg #[.int .u64 n, .slice a len cap, .slice am lm cm], .slice ba bl bc] w fun e w' => e = .returned (.bool true) ∧ Below w.heap.size w w' := by
  have HR := hid hread
  replace HNM := hid HNM
  replace HPT := hid HPT
  clear hread
  have hne : (er != 0) = true := by simpa using her
  go_enter Tryz.func5, Tryz.ntmps5
  go_wp2_with fail
  refine (awake3 _).mono ?_
  rintro e w1 ⟨rfl, hb⟩
  obtain ⟨d0, d1, d2⟩ := vcells hb
  have HB := hid (below_trans (below_alloc _) hb)
  clear hb
  go_wp2_with fail
  refine (HNM.out _).mono ?_
  rintro e w' ⟨rfl, rfl⟩
  go_wp2_with fail
  refine (HPT.out _ (reads_kept HR.out HB.out)).mono ?_
  rintro e w2 ⟨pa, pc, rfl, hp, hb⟩
  replace d0 := cell_kept hb d0
  replace d1 := cell_kept hb d1
  replace d2 := cell_kept hb d2
  replace HB := hid (below_trans HB.out hb)
  clear hb
  go_wp2
  go_ret
  exact ⟨rfl, HB.out⟩
theorem backGood18_0 (X T : ByteArray) (P : List Int) (pl : Nat) (hpl : P.length = pl) (hplm : pl ≤ 4194304) (hblm : bl ≤ 4194304) (hread : Reads w a len cap xs) (hbeh : Reads w ba bl bc ys) (hL : Laid w) (z : decide ((65536 : Int) < (T.size : Int)) = false) (hsz : T.size ≤ 9223372036854775807)
    (HNM : ∀ W : World, Calls Tryz.prog 15 #[.int .i64 k] W fun e w' => e = .returned (.tuple #[.string X, .int .i64 18]) ∧ W = w') 
    (HPT : ∀ W : World, Reads W a len cap xs → Calls Tryz.prog 10 #[.int .i64 k, .agg #[.int .u64 n, .slice a len cap, .slice am 0 cm]] W fun e w' => ∃ a c, e = .returned (.tuple #[.slice a pl c, .int .i64 0]) ∧ Reads w' a pl c P ∧ Below W.heap.size W w')
    (HGT : ∀ (W : World) (ac : Option Addr) (cc : Nat), Reads W ac (pl + bl) cc (P ++ ys) → Calls Tryz.prog 24 #[.int .i64 k, .slice ac (pl + bl) cc, .int .i64 0] W fun e w' => ∃ a c, e = .returned (.tuple #[.agg #[.int .u64 n, .slice a xs.length c, .slice none 0 0], .int .i64 pl, .int .i64 0]) ∧ Reads w' a xs.length c xs ∧ Below W.heap.size W w')
    (HTX : ∀ W : World, Reads W a len cap xs → Laid W → Calls Tryz.prog 17 #[.int .i64 k, .agg #[.int .u64 n, .slice a len cap, .slice am 0 cm]] W fun e w' => e = .returned (.tuple #[.string T, .int .i64 0]) ∧ Below W.heap.size W w')
    (HPS : ∀ W : World, Laid W → Calls Tryz.prog 18 #[.int .i64 k, .string T] W fun e w' => ∃ a c, e = .returned (.tuple #[.agg #[.int .u64 n, .slice a xs.length c, .slice none 0 0], .int .i64 0]) ∧ Reads w' a xs.length c xs ∧ Below W.heap.size W w') :
    Calls Tryz.prog 5 #[.int .i64 k, .agg #[.int .u64 n, .slice a len cap, .slice am 0 cm], .slice ba bl bc] w fun e w' => e = .returned (.bool true) ∧ Below w.heap.size w w' := by
  have HR := hid hread
  replace HNM := hid HNM
  replace HPT := hid HPT
  clear hread
  have HBH := hid hbeh
  have HL := hid hL
  replace HGT := hid HGT
  replace HTX := hid HTX
  replace HPS := hid HPS
  have HPL := hid hpl
  clear hbeh hL hpl
  go_enter Tryz.func5, Tryz.ntmps5
  go_wp2_with fail
  refine (awake3 _).mono ?_
  rintro e w1 ⟨rfl, hb⟩
  obtain ⟨d0, d1, d2⟩ := vcells hb
  have HB := hid (below_trans (below_alloc _) hb)
  clear hb
  go_wp2_with fail
  refine (HNM.out _).mono ?_
  rintro e w' ⟨rfl, rfl⟩
  go_wp2_with fail
  refine (HPT.out _ (reads_kept HR.out HB.out)).mono ?_
  rintro e w2 ⟨pa, pc, rfl, hp, hb⟩
  replace d0 := cell_kept hb d0
  replace d1 := cell_kept hb d1
  replace d2 := cell_kept hb d2
  replace HB := hid (below_trans HB.out hb)
  clear hb
  obtain ⟨v6, ac, cc, w6, w7, r6, r7, hrc, hb7⟩ := two_rows w2 pa ba pl pc bl bc P ys hp (reads_kept HBH.out HB.out) hplm hblm
  have R6 := hid r6
  have R7 := hid r7
  have HRC := hid hrc
  replace d0 := cell_kept hb7 d0
  replace d1 := cell_kept hb7 d1
  replace d2 := cell_kept hb7 d2
  replace HB := hid (below_trans HB.out hb7)
  clear r6 r7 hrc hb7 hp
  go_wp2_with (first | (at_builtin; refine wpList_append_ran rfl _ _ 27 27 rfl rfl _ _ v6 w6 rfl rfl R6.out ?_) | (at_builtin; refine wpList_append_ran rfl _ _ 27 27 rfl rfl _ _ _ w7 rfl rfl R7.out ?_))
  refine (HGT.out _ ac cc HRC.out).mono ?_
  rintro e w8 ⟨ga, gc, rfl, hg, hb⟩
  replace d0 := cell_kept hb d0
  replace d1 := cell_kept hb d1
  replace d2 := cell_kept hb d2
  have hlt8 := block_lt d0
  replace HB := hid (below_trans HB.out hb)
  have HG := hid hg
  clear hb hg HRC R6 R7
  go_wp2_with fail
  refine (HTX.out _ (reads_kept (reads_kept HR.out HB.out) (below_alloc _)) ((HL.out.kept HB.out).kept (below_alloc _))).mono ?_
  rintro e w9 ⟨rfl, hb⟩
  obtain ⟨f0, f1, f2⟩ := vcells hb
  replace d0 := cell_kept (below_trans (below_alloc _) hb) d0
  replace d1 := cell_kept (below_trans (below_alloc _) hb) d1
  replace d2 := cell_kept (below_trans (below_alloc _) hb) d2
  replace HG := hid (reads_kept (reads_kept HG.out (below_alloc _)) hb)
  replace HB := hid (below_trans (below_trans HB.out (below_alloc _)) hb)
  clear hb hlt8
  go_wp2_with fail
  refine (HPS.out _ (HL.out.kept HB.out)).mono ?_
  rintro e w10 ⟨ua, uc, rfl, hu, hb⟩
  replace d0 := cell_kept hb d0
  replace d1 := cell_kept hb d1
  replace d2 := cell_kept hb d2
  replace f0 := cell_kept hb f0
  replace f1 := cell_kept hb f1
  replace f2 := cell_kept hb f2
  have hlt10 := block_lt d0
  have hlf10 := block_lt f0
  replace HG := hid (reads_kept HG.out hb)
  replace HB := hid (below_trans HB.out hb)
  have HU := hid hu
  clear hb hu
  go_wp2_with fail
  refine (toldYes n n ga a none am xs.length gc len cap 0 cm xs xs _ 0 (reads_kept HG.out (below_alloc _)) (reads_kept (reads_kept HR.out HB.out) (below_alloc _)) (by simp) (by simp)).mono ?_
  rintro e w11 ⟨rfl, hb⟩
  obtain ⟨g0, g1, g2⟩ := vcells hb
  replace d0 := cell_kept (below_trans (below_alloc _) hb) d0
  replace d1 := cell_kept (below_trans (below_alloc _) hb) d1
  replace d2 := cell_kept (below_trans (below_alloc _) hb) d2
  replace HU := hid (reads_kept (reads_kept HU.out (below_alloc _)) hb)
  replace HB := hid (below_trans (below_trans HB.out (below_alloc _)) hb)
  clear hb hlt10 hlf10 f0 f1 f2
  go_wp2_with fail
  refine (toldYes n n ua a none am xs.length uc len cap 0 cm xs xs _ 0 HU.out (reads_kept HR.out HB.out) (by simp) (by simp)).mono ?_
  rintro e w12 ⟨rfl, hb⟩
  replace HB := hid (below_trans HB.out hb)
  clear hb
  go_wp2
  go_ret
  exact ⟨rfl, HB.out⟩
theorem backGood18_1 (X T : ByteArray) (P : List Int) (pl : Nat) (hpl : P.length = pl) (hplm : pl ≤ 4194304) (hblm : bl ≤ 4194304) (hread : Reads w a len cap xs) (hbeh : Reads w ba bl bc ys) (hL : Laid w) (z : (65536 : Int) < (T.size : Int)) (hsz : T.size ≤ 9223372036854775807)
    (HNM : ∀ W : World, Calls Tryz.prog 15 #[.int .i64 k] W fun e w' => e = .returned (.tuple #[.string X, .int .i64 18]) ∧ W = w') 
    (HPT : ∀ W : World, Reads W a len cap xs → Calls Tryz.prog 10 #[.int .i64 k, .agg #[.int .u64 n, .slice a len cap, .slice am 0 cm]] W fun e w' => ∃ a c, e = .returned (.tuple #[.slice a pl c, .int .i64 0]) ∧ Reads w' a pl c P ∧ Below W.heap.size W w')
    (HGT : ∀ (W : World) (ac : Option Addr) (cc : Nat), Reads W ac (pl + bl) cc (P ++ ys) → Calls Tryz.prog 24 #[.int .i64 k, .slice ac (pl + bl) cc, .int .i64 0] W fun e w' => ∃ a c, e = .returned (.tuple #[.agg #[.int .u64 n, .slice a xs.length c, .slice none 0 0], .int .i64 pl, .int .i64 0]) ∧ Reads w' a xs.length c xs ∧ Below W.heap.size W w')
    (HTX : ∀ W : World, Reads W a len cap xs → Laid W → Calls Tryz.prog 17 #[.int .i64 k, .agg #[.int .u64 n, .slice a len cap, .slice am 0 cm]] W fun e w' => e = .returned (.tuple #[.string T, .int .i64 0]) ∧ Below W.heap.size W w')
    (HPS : ∀ W : World, Laid W → Calls Tryz.prog 18 #[.int .i64 k, .string T] W fun e w' => ∃ a c, e = .returned (.tuple #[.agg #[.int .u64 0, .slice a 0 c, .slice none 0 0], .int .i64 1]) ∧ True ∧ Below W.heap.size W w') :
    Calls Tryz.prog 5 #[.int .i64 k, .agg #[.int .u64 n, .slice a len cap, .slice am 0 cm], .slice ba bl bc] w fun e w' => e = .returned (.bool true) ∧ Below w.heap.size w w' := by
  have HR := hid hread
  replace HNM := hid HNM
  replace HPT := hid HPT
  clear hread
  have HBH := hid hbeh
  have HL := hid hL
  replace HGT := hid HGT
  replace HTX := hid HTX
  replace HPS := hid HPS
  have HPL := hid hpl
  clear hbeh hL hpl
  go_enter Tryz.func5, Tryz.ntmps5
  go_wp2_with fail
  refine (awake3 _).mono ?_
  rintro e w1 ⟨rfl, hb⟩
  obtain ⟨d0, d1, d2⟩ := vcells hb
  have HB := hid (below_trans (below_alloc _) hb)
  clear hb
  go_wp2_with fail
  refine (HNM.out _).mono ?_
  rintro e w' ⟨rfl, rfl⟩
  go_wp2_with fail
  refine (HPT.out _ (reads_kept HR.out HB.out)).mono ?_
  rintro e w2 ⟨pa, pc, rfl, hp, hb⟩
  replace d0 := cell_kept hb d0
  replace d1 := cell_kept hb d1
  replace d2 := cell_kept hb d2
  replace HB := hid (below_trans HB.out hb)
  clear hb
  obtain ⟨v6, ac, cc, w6, w7, r6, r7, hrc, hb7⟩ := two_rows w2 pa ba pl pc bl bc P ys hp (reads_kept HBH.out HB.out) hplm hblm
  have R6 := hid r6
  have R7 := hid r7
  have HRC := hid hrc
  replace d0 := cell_kept hb7 d0
  replace d1 := cell_kept hb7 d1
  replace d2 := cell_kept hb7 d2
  replace HB := hid (below_trans HB.out hb7)
  clear r6 r7 hrc hb7 hp
  go_wp2_with (first | (at_builtin; refine wpList_append_ran rfl _ _ 27 27 rfl rfl _ _ v6 w6 rfl rfl R6.out ?_) | (at_builtin; refine wpList_append_ran rfl _ _ 27 27 rfl rfl _ _ _ w7 rfl rfl R7.out ?_))
  refine (HGT.out _ ac cc HRC.out).mono ?_
  rintro e w8 ⟨ga, gc, rfl, hg, hb⟩
  replace d0 := cell_kept hb d0
  replace d1 := cell_kept hb d1
  replace d2 := cell_kept hb d2
  have hlt8 := block_lt d0
  replace HB := hid (below_trans HB.out hb)
  have HG := hid hg
  clear hb hg HRC R6 R7
  go_wp2_with fail
  refine (HTX.out _ (reads_kept (reads_kept HR.out HB.out) (below_alloc _)) ((HL.out.kept HB.out).kept (below_alloc _))).mono ?_
  rintro e w9 ⟨rfl, hb⟩
  obtain ⟨f0, f1, f2⟩ := vcells hb
  replace d0 := cell_kept (below_trans (below_alloc _) hb) d0
  replace d1 := cell_kept (below_trans (below_alloc _) hb) d1
  replace d2 := cell_kept (below_trans (below_alloc _) hb) d2
  replace HG := hid (reads_kept (reads_kept HG.out (below_alloc _)) hb)
  replace HB := hid (below_trans (below_trans HB.out (below_alloc _)) hb)
  clear hb hlt8
  go_wp2_with fail
  refine (HPS.out _ (HL.out.kept HB.out)).mono ?_
  rintro e w10 ⟨ua, uc, rfl, hu, hb⟩
  replace d0 := cell_kept hb d0
  replace d1 := cell_kept hb d1
  replace d2 := cell_kept hb d2
  replace f0 := cell_kept hb f0
  replace f1 := cell_kept hb f1
  replace f2 := cell_kept hb f2
  have hlt10 := block_lt d0
  have hlf10 := block_lt f0
  replace HG := hid (reads_kept HG.out hb)
  replace HB := hid (below_trans HB.out hb)
  have HU := hid hu
  clear hb hu
  go_wp2_with fail
  refine (toldYes n n ga a none am xs.length gc len cap 0 cm xs xs _ 0 (reads_kept HG.out (below_alloc _)) (reads_kept (reads_kept HR.out HB.out) (below_alloc _)) (by simp) (by simp)).mono ?_
  rintro e w11 ⟨rfl, hb⟩
  obtain ⟨g0, g1, g2⟩ := vcells hb
  replace d0 := cell_kept (below_trans (below_alloc _) hb) d0
  replace d1 := cell_kept (below_trans (below_alloc _) hb) d1
  replace d2 := cell_kept (below_trans (below_alloc _) hb) d2
  replace HB := hid (below_trans (below_trans HB.out (below_alloc _)) hb)
  clear hb hlt10 hlf10 f0 f1 f2
  go_wp2
  go_ret
  exact ⟨rfl, HB.out⟩
end
end Go.Proofs.YtcenkalhklpajaaGreatDoor
namespace Go.Proofs.YtcenkalhklpajaaGreatDoor
open Go.RowKit
set_option maxRecDepth 1000000
set_option maxHeartbeats 4000000
set_option linter.unusedVariables false

theorem kind_name {k : Int} (h : 1 ≤ k ∧ k ≤ 15) : kindS (kname k) = k ∧ kindE (kname k) = 0 := by
  have : k = 1 ∨ k = 2 ∨ k = 3 ∨ k = 4 ∨ k = 5 ∨ k = 6 ∨ k = 7 ∨ k = 8 ∨ k = 9 ∨ k = 10 ∨ k = 11 ∨ k = 12 ∨ k = 13 ∨ k = 14 ∨ k = 15 := by omega
  rcases this with rfl | rfl | rfl | rfl | rfl | rfl | rfl | rfl | rfl | rfl | rfl | rfl | rfl | rfl | rfl <;> decide +kernel
theorem putV_len (k n : Int) (xs : List Int) (h0 : 0 ≤ n) (h1 : n < 18446744073709551616) (hx : xs.length < 18446744073709551616) : (putV k n xs).length ≤ xs.length + 10 := by
  unfold putV
  split
  · have hz := sgn_bd h0 h1
    have := pv_len (zigF (sgn n))
    omega
  · split
    · rw [pw_length]; omega
    · split
      · rw [pw_length]; omega
      · split
        · unfold pc
          rw [List.length_append]
          have := pv_len (xs.length : Int)
          omega
        · have := pv_len n
          omega
theorem scalarBackW (k n : Int) (a am ba : Option Addr) (len cap lm cm bl bc : Nat) (xs ys : List Int) (w : World) (h0 : 0 ≤ n) (h1 : n < 18446744073709551616) (h : Reads w a len cap xs) (hbh : Reads w ba bl bc ys) (hm : lm ≤ 9223372036854775807) (hlen : len ≤ 1048576) (hbl : bl ≤ 1048576) (hL : Laid w) :
    Calls Tryz.prog 5 #[.int .i64 k, .agg #[.int .u64 n, .slice a len cap, .slice am lm cm], .slice ba bl bc] w fun e w' => e = .returned (.bool true) ∧ Below w.heap.size w w' := by
  have hxl := h.length
  have hxb := bd_mem h.bd
  have HP : ∀ W : World, Reads W a len cap xs → Calls Tryz.prog 10 #[.int .i64 k, .agg #[.int .u64 n, .slice a len cap, .slice am lm cm]] W fun e w' => Wrote W (putE k n xs lm) e w' := fun W hW => putKW k n a am len cap lm cm W xs h0 h1 hW hm (by omega)
  by_cases hz : flt k n xs lm = 0
  · obtain ⟨hlm, _, _, _⟩ := flt_none hz
    subst hlm
    have hk := (flt_zero hz).1
    rw [putE_ok hz] at HP
    have hpl := putV_len k n xs h0 h1 (by omega)
    have HG : ∀ (W : World) (ac : Option Addr) (cc : Nat), Reads W ac ((putV k n xs).length + bl) cc (putV k n xs ++ ys) → Calls Tryz.prog 24 #[.int .i64 k, .slice ac ((putV k n xs).length + bl) cc, .int .i64 0] W fun e w' => ∃ a c, e = .returned (.tuple #[.agg #[.int .u64 n, .slice a xs.length c, .slice none 0 0], .int .i64 ((putV k n xs).length : Nat), .int .i64 0]) ∧ Reads w' a xs.length c xs ∧ Below W.heap.size W w' := by
      intro W ac cc hr
      have := getKW k ac ((putV k n xs).length + bl) cc ((0 : Nat) : Int) (putV k n xs ++ ys) W hr (by omega)
      rw [getE_in hk (by omega), get_put ys hz h0 h1 (by omega)] at this
      exact this
    have HT : ∀ W : World, Reads W a len cap xs → Laid W → Calls Tryz.prog 17 #[.int .i64 k, .agg #[.int .u64 n, .slice a len cap, .slice am 0 cm]] W fun e w' => e = .returned (.tuple #[.string (strOfNums (textL k n xs)), .int .i64 0]) ∧ Below W.heap.size W w' := by
      intro W hr hLW
      have := textKW k n a am len cap 0 cm W xs h0 h1 hr (by omega) hlen hLW
      unfold textE at this
      rw [hz, if_pos rfl, text_L] at this
      exact this
    have hsz := strOfNums_size (textL k n xs)
    have htl : (textL k n xs).length ≤ 4194306 := by
      rcases textL_len (k := k) (xs := xs) h0 h1 with h | ⟨_, h⟩
      · omega
      · rw [h, qt_len]
        have := (flat_len xs).2
        omega
    have HS : ∀ W : World, Laid W → Calls Tryz.prog 18 #[.int .i64 k, .string (strOfNums (textL k n xs))] W fun e w' => GaveP W (if 65536 < (textL k n xs).length then .none 1 else ⟨n, xs, 0, 0⟩) e w' := by
      intro W hLW
      have := parseKW k (textL k n xs) (textL_bd hxb) (by omega) W hLW.syn hLW.rng
      rw [parse_text hz h0 h1 hxb] at this
      exact this
    by_cases hbig : 65536 < (textL k n xs).length
    · rw [if_pos hbig] at HS
      have HS' : ∀ W : World, Laid W → Calls Tryz.prog 18 #[.int .i64 k, .string (strOfNums (textL k n xs))] W fun e w' => ∃ a c, e = .returned (.tuple #[.agg #[.int .u64 0, .slice a 0 c, .slice none 0 0], .int .i64 1]) ∧ True ∧ Below W.heap.size W w' := fun W hLW => (HS W hLW).mono fun e w' hh => by
        obtain ⟨a, c, e1, _, e3⟩ := hh
        exact ⟨a, c, e1, trivial, e3⟩
      by_cases hk15 : 1 ≤ k ∧ k ≤ 15
      · refine backGood0_1 k n a am ba len cap cm bl bc xs ys w (kname k) _ (putV k n xs) _ rfl (by omega) (by omega) h hbh hL (by rw [hsz]; omega) (by omega) (fun W => ?_) (fun W => ?_) HP HG HT HS'
        · have := nameW k W; rw [show knameE k = 0 by unfold knameE; rw [if_pos hk15]] at this; exact this
        · have := kindW (kname k) W; rw [(kind_name hk15).1, (kind_name hk15).2] at this; exact this
      · refine backGood18_1 k n a am ba len cap cm bl bc xs ys w (kname k) _ (putV k n xs) _ rfl (by omega) (by omega) h hbh hL (by rw [hsz]; omega) (by omega) (fun W => ?_) HP HG HT HS'
        have := nameW k W; rw [show knameE k = 18 by unfold knameE; rw [if_neg hk15]] at this; exact this
    · rw [if_neg hbig] at HS
      by_cases hk15 : 1 ≤ k ∧ k ≤ 15
      · refine backGood0_0 k n a am ba len cap cm bl bc xs ys w (kname k) _ (putV k n xs) _ rfl (by omega) (by omega) h hbh hL (by rw [hsz]; simp; omega) (by omega) (fun W => ?_) (fun W => ?_) HP HG HT HS
        · have := nameW k W; rw [show knameE k = 0 by unfold knameE; rw [if_pos hk15]] at this; exact this
        · have := kindW (kname k) W; rw [(kind_name hk15).1, (kind_name hk15).2] at this; exact this
      · refine backGood18_0 k n a am ba len cap cm bl bc xs ys w (kname k) _ (putV k n xs) _ rfl (by omega) (by omega) h hbh hL (by rw [hsz]; simp; omega) (by omega) (fun W => ?_) HP HG HT HS
        have := nameW k W; rw [show knameE k = 18 by unfold knameE; rw [if_neg hk15]] at this; exact this
  · rw [putE_err hz] at HP
    have her : (flt k n xs lm == 0) = false := by simpa using hz
    by_cases hk15 : 1 ≤ k ∧ k ≤ 15
    · refine backBad0 k n a am ba len cap lm cm bl bc xs w (kname k) _ h her (fun W => ?_) (fun W => ?_) HP
      · have := nameW k W; rw [show knameE k = 0 by unfold knameE; rw [if_pos hk15]] at this; exact this
      · have := kindW (kname k) W; rw [(kind_name hk15).1, (kind_name hk15).2] at this; exact this
    · refine backBad18 k n a am ba len cap lm cm bl bc xs w (kname k) _ h her (fun W => ?_) HP
      have := nameW k W; rw [show knameE k = 18 by unfold knameE; rw [if_neg hk15]] at this; exact this
end Go.Proofs.YtcenkalhklpajaaGreatDoor
