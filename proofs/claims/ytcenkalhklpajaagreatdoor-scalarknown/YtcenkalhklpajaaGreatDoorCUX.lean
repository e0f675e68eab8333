/-
  Chapter 3's examples: the calls at closed arguments.
  Chapter 3's examples: the law's walk.
-/
import Derived.Test.YtcenkalhklpajaaGreatDoorCUU
import Derived.BigQuiet
import Derived.Deep.RegionHeld3
namespace Go.Proofs.YtcenkalhklpajaaGreatDoor
open Go.RowKit
set_option maxRecDepth 1000000
set_option maxHeartbeats 4000000
set_option linter.unusedVariables false

theorem sW (a : Option Addr) (len cap : Nat) (w : World) : Calls Tryz.prog 12 #[.slice a len cap] w fun e w' => e = .returned (.agg #[.int .u64 0, .slice a len cap, .slice none 0 0]) ∧ Below w.heap.size w w' := by
  go_enter Tryz.func12, Tryz.ntmps12
  go_wp2
  exact bodyPost_ret (v := .agg #[.int .u64 0, .slice a len cap, .slice none 0 0]) (by simp [results, Tryz.results12, go_sem]) rfl ⟨rfl, below_alloc _⟩
theorem gotYes (k : Int) (a : Option Addr) (len cap : Nat) (xs : List Int) (wn nx er : Int) (w : World) (h : Reads w a len cap xs) (hreach : len ≤ 1000) (hg : getE k xs 0 = ⟨if er = 0 then wn else 0, [], nx, er⟩) :
    Calls Tryz.prog 14 #[.int .i64 k, .slice a len cap, .agg #[.int .u64 wn, .slice none 0 0, .slice none 0 0], .int .i64 nx, .int .i64 er] w fun e w' => e = .returned (.bool true) ∧ Below w.heap.size w w' := by
  have HR := hid h
  have HG := hid hg
  have HZ : Hid ((er ≠ 0 → (if er = 0 then wn else 0) = 0 ∧ ([] : List Int) = []) ∧ (er = 0 → (if er = 0 then wn else 0) = wn ∧ ([] : List Int) = [])) := hid ⟨fun h => ⟨if_neg h, rfl⟩, fun h => ⟨if_pos h, rfl⟩⟩
  generalize (if er = 0 then wn else 0) = gn at *
  have HGT : Hid (∀ W : World, Below w.heap.size w W → Calls Tryz.prog 24 #[.int .i64 k, .slice a len cap, .int .i64 0] W fun e w' => ∃ a c, e = .returned (.tuple #[.agg #[.int .u64 gn, .slice a 0 c, .slice none 0 0], .int .i64 nx, .int .i64 er]) ∧ Reads w' a 0 c [] ∧ Below W.heap.size W w') := hid fun W hW => (getKW k a len cap 0 xs W (reads_kept HR.out hW) (by omega)).mono fun e w' hh => gave_is hh HG.out
  clear h hg HG
  go_enter Tryz.func14, Tryz.ntmps14
  go_wp2_with fail
  refine (HGT.out _ (below_alloc _)).mono ?_
  rintro e w1 ⟨ga, gc, rfl, hg, hb⟩
  obtain ⟨d0, d1, d2⟩ := vcells hb
  have hlt := block_lt d0
  have HB := hid (below_trans (below_alloc _) hb)
  have HGR := hid hg
  clear hb hg
  go_wp2_with fail
  refine (toldYes gn wn ga none none none 0 gc 0 0 0 0 [] [] _ er (reads_kept HGR.out (below_alloc _)) (reads_nil _) (fun h => ⟨(HZ.out.1 h).1, rfl⟩) (fun h => ⟨(HZ.out.2 h).1, rfl⟩)).mono ?_
  rintro e w2 ⟨rfl, hb⟩
  replace HB := hid (below_trans (below_trans HB.out (below_alloc _)) hb)
  clear hb
  go_wp2
  go_ret
  exact ⟨rfl, HB.out⟩
theorem kWire6 (W : World) : Calls Tryz.prog 6 #[.int .i64 6] W fun e w' => e = .returned (.tuple #[.int .i64 0, .int .i64 0]) ∧ W = w' := wireKW 6 W
theorem kWire0 (W : World) : Calls Tryz.prog 6 #[.int .i64 0] W fun e w' => e = .returned (.tuple #[.int .i64 0, .int .i64 18]) ∧ W = w' := wireKW 0 W
theorem kNum14 (W : World) : Calls Tryz.prog 8 #[.int .i64 14] W fun e w' => e = .returned (.bool false) ∧ W = w' := numericW 14 W
theorem kNum1 (W : World) : Calls Tryz.prog 8 #[.int .i64 1] W fun e w' => e = .returned (.bool true) ∧ W = w' := numericW 1 W
theorem kKey12 (W : World) : Calls Tryz.prog 9 #[.int .i64 12] W fun e w' => e = .returned (.bool false) ∧ W = w' := isKeyW 12 W
theorem kKey14 (W : World) : Calls Tryz.prog 9 #[.int .i64 14] W fun e w' => e = .returned (.bool true) ∧ W = w' := isKeyW 14 W
theorem kName11 (W : World) : Calls Tryz.prog 15 #[.int .i64 11] W fun e w' => e = .returned (.tuple #[.string ⟨#[115, 102, 105, 120, 101, 100, 54, 52]⟩, .int .i64 0]) ∧ W = w' := by
  have := nameW 11 W
  rw [show kname 11 = ⟨#[115, 102, 105, 120, 101, 100, 54, 52]⟩ by decide +kernel, show knameE 11 = 0 by decide] at this
  exact this
theorem kName16 (W : World) : Calls Tryz.prog 15 #[.int .i64 16] W fun e w' => e = .returned (.tuple #[.string ⟨#[]⟩, .int .i64 18]) ∧ W = w' := by
  have := nameW 16 W
  rw [show kname 16 = ⟨#[]⟩ by decide +kernel, show knameE 16 = 18 by decide] at this
  exact this
theorem kKindD (W : World) : Calls Tryz.prog 16 #[.string ⟨#[100, 111, 117, 98, 108, 101]⟩] W fun e w' => e = .returned (.tuple #[.int .i64 13, .int .i64 0]) ∧ W = w' := by
  have := kindW ⟨#[100, 111, 117, 98, 108, 101]⟩ W
  rw [show kindS ⟨#[100, 111, 117, 98, 108, 101]⟩ = 13 by decide +kernel, show kindE ⟨#[100, 111, 117, 98, 108, 101]⟩ = 0 by decide +kernel] at this
  exact this
theorem kKindB (W : World) : Calls Tryz.prog 16 #[.string ⟨#[66, 111, 111, 108]⟩] W fun e w' => e = .returned (.tuple #[.int .i64 0, .int .i64 12]) ∧ W = w' := by
  have := kindW ⟨#[66, 111, 111, 108]⟩ W
  rw [show kindS ⟨#[66, 111, 111, 108]⟩ = 0 by decide +kernel, show kindE ⟨#[66, 111, 111, 108]⟩ = 12 by decide +kernel] at this
  exact this
theorem kNm1 (W : World) : Calls Tryz.prog 11 #[.int .i64 (-1)] W fun e w' => e = .returned (.agg #[.int .u64 18446744073709551615, .slice none 0 0, .slice none 0 0]) ∧ Below W.heap.size W w' := nW (-1) W
theorem kN2 (W : World) : Calls Tryz.prog 11 #[.int .i64 2] W fun e w' => e = .returned (.agg #[.int .u64 2, .slice none 0 0, .slice none 0 0]) ∧ Below W.heap.size W w' := nW 2 W
theorem kNm2 (W : World) : Calls Tryz.prog 11 #[.int .i64 (-2)] W fun e w' => e = .returned (.agg #[.int .u64 18446744073709551614, .slice none 0 0, .slice none 0 0]) ∧ Below W.heap.size W w' := nW (-2) W
theorem kN4294967295 (W : World) : Calls Tryz.prog 11 #[.int .i64 4294967295] W fun e w' => e = .returned (.agg #[.int .u64 4294967295, .slice none 0 0, .slice none 0 0]) ∧ Below W.heap.size W w' := nW 4294967295 W
theorem kN1 (W : World) : Calls Tryz.prog 11 #[.int .i64 1] W fun e w' => e = .returned (.agg #[.int .u64 1, .slice none 0 0, .slice none 0 0]) ∧ Below W.heap.size W w' := nW 1 W
theorem kN1065353216 (W : World) : Calls Tryz.prog 11 #[.int .i64 1065353216] W fun e w' => e = .returned (.agg #[.int .u64 1065353216, .slice none 0 0, .slice none 0 0]) ∧ Below W.heap.size W w' := nW 1065353216 W
theorem kPut2 (W : World) : Calls Tryz.prog 10 #[.int .i64 2, .agg #[.int .u64 18446744073709551615, .slice none 0 0, .slice none 0 0]] W fun e w' => ∃ a c, e = .returned (.tuple #[.slice a 10 c, .int .i64 0]) ∧ Reads w' a 10 c [255, 255, 255, 255, 255, 255, 255, 255, 255, 1] ∧ Below W.heap.size W w' :=
  (putKW 2 18446744073709551615 none none 0 0 0 0 W [] (by decide) (by decide) (reads_nil W) (by decide) (by decide)).mono fun _ _ h => wrote_is h (ys := [255, 255, 255, 255, 255, 255, 255, 255, 255, 1]) (er := 0) (by decide)
theorem kPut1 (W : World) : Calls Tryz.prog 10 #[.int .i64 1, .agg #[.int .u64 2, .slice none 0 0, .slice none 0 0]] W fun e w' => ∃ a c, e = .returned (.tuple #[.slice a 0 c, .int .i64 7]) ∧ Reads w' a 0 c [] ∧ Below W.heap.size W w' :=
  (putKW 1 2 none none 0 0 0 0 W [] (by decide) (by decide) (reads_nil W) (by decide) (by decide)).mono fun _ _ h => wrote_is h (ys := []) (er := 7) (by decide)
theorem kPut10 (W : World) : Calls Tryz.prog 10 #[.int .i64 10, .agg #[.int .u64 18446744073709551614, .slice none 0 0, .slice none 0 0]] W fun e w' => ∃ a c, e = .returned (.tuple #[.slice a 4 c, .int .i64 0]) ∧ Reads w' a 4 c [254, 255, 255, 255] ∧ Below W.heap.size W w' :=
  (putKW 10 18446744073709551614 none none 0 0 0 0 W [] (by decide) (by decide) (reads_nil W) (by decide) (by decide)).mono fun _ _ h => wrote_is h (ys := [254, 255, 255, 255]) (er := 0) (by decide)
theorem kPut14 (a : Option Addr) (c : Nat) (W : World) (h : Reads W a 1 c [255]) : Calls Tryz.prog 10 #[.int .i64 14, .agg #[.int .u64 0, .slice a 1 c, .slice none 0 0]] W fun e w' => ∃ a c, e = .returned (.tuple #[.slice a 0 c, .int .i64 8]) ∧ Reads w' a 0 c [] ∧ Below W.heap.size W w' :=
  (putKW 14 0 a none 1 c 0 0 W [255] (by decide) (by decide) h (by decide) (by decide)).mono fun _ _ h => wrote_is h (ys := []) (er := 8) (by decide)
theorem kText13 (W : World) (hL : Laid W) : Calls Tryz.prog 17 #[.int .i64 13, .agg #[.int .u64 4607182418800017408, .slice none 0 0, .slice none 0 0]] W fun e w' => e = .returned (.tuple #[.string ⟨#[100, 51, 102, 102, 48, 48, 48, 48, 48, 48, 48, 48, 48, 48, 48, 48, 48]⟩, .int .i64 0]) ∧ Below W.heap.size W w' := by
  have := textKW 13 4607182418800017408 none none 0 0 0 0 W [] (by decide) (by decide) (reads_nil W) (by decide) (by decide) hL
  rw [show textE 13 4607182418800017408 [] 0 = ⟨#[100, 51, 102, 102, 48, 48, 48, 48, 48, 48, 48, 48, 48, 48, 48, 48, 48]⟩ by decide +kernel, show flt 13 4607182418800017408 [] 0 = 0 by decide] at this
  exact this
theorem kText1 (W : World) (hL : Laid W) : Calls Tryz.prog 17 #[.int .i64 1, .agg #[.int .u64 1, .slice none 0 0, .slice none 0 0]] W fun e w' => e = .returned (.tuple #[.string ⟨#[116, 114, 117, 101]⟩, .int .i64 0]) ∧ Below W.heap.size W w' := by
  have := textKW 1 1 none none 0 0 0 0 W [] (by decide) (by decide) (reads_nil W) (by decide) (by decide) hL
  rw [show textE 1 1 [] 0 = ⟨#[116, 114, 117, 101]⟩ by decide +kernel, show flt 1 1 [] 0 = 0 by decide] at this
  exact this
theorem kParse12 (W : World) (hL : Laid W) : Calls Tryz.prog 18 #[.int .i64 12, .string ⟨#[102, 51, 70, 56, 48, 48, 48, 48, 48]⟩] W fun e w' => ∃ a c, e = .returned (.tuple #[.agg #[.int .u64 1065353216, .slice a 0 c, .slice none 0 0], .int .i64 0]) ∧ Reads w' a 0 c [] ∧ Below W.heap.size W w' := by
  have := parseKW 12 [102, 51, 70, 56, 48, 48, 48, 48, 48] (by decide) (by decide) W hL.syn hL.rng
  rw [show strOfNums [102, 51, 70, 56, 48, 48, 48, 48, 48] = ⟨#[102, 51, 70, 56, 48, 48, 48, 48, 48]⟩ by decide +kernel, show parseV 12 [102, 51, 70, 56, 48, 48, 48, 48, 48] = ⟨1065353216, [], 0, 0⟩ by rfl] at this
  exact this
theorem kParse4 (W : World) (hL : Laid W) : Calls Tryz.prog 18 #[.int .i64 4, .string ⟨#[45, 49]⟩] W fun e w' => ∃ a c, e = .returned (.tuple #[.agg #[.int .u64 0, .slice a 0 c, .slice none 0 0], .int .i64 11]) ∧ Reads w' a 0 c [] ∧ Below W.heap.size W w' := by
  have := parseKW 4 [45, 49] (by decide) (by decide) W hL.syn hL.rng
  rw [show strOfNums [45, 49] = ⟨#[45, 49]⟩ by decide +kernel, show parseV 4 [45, 49] = ⟨0, [], 0, 11⟩ by rfl] at this
  exact this
theorem kParse2 (W : World) (hL : Laid W) : Calls Tryz.prog 18 #[.int .i64 2, .string ⟨#[50, 49, 52, 55, 52, 56, 51, 54, 52, 56]⟩] W fun e w' => ∃ a c, e = .returned (.tuple #[.agg #[.int .u64 0, .slice a 0 c, .slice none 0 0], .int .i64 7]) ∧ Reads w' a 0 c [] ∧ Below W.heap.size W w' := by
  have := parseKW 2 [50, 49, 52, 55, 52, 56, 51, 54, 52, 56] (by decide) (by decide) W hL.syn hL.rng
  rw [show strOfNums [50, 49, 52, 55, 52, 56, 51, 54, 52, 56] = ⟨#[50, 49, 52, 55, 52, 56, 51, 54, 52, 56]⟩ by decide +kernel, show parseV 2 [50, 49, 52, 55, 52, 56, 51, 54, 52, 56] = ⟨0, [], 0, 7⟩ by rfl] at this
  exact this
theorem kCmp3 (W : World) : Calls Tryz.prog 20 #[.int .i64 3, .agg #[.int .u64 18446744073709551615, .slice none 0 0, .slice none 0 0], .agg #[.int .u64 1, .slice none 0 0, .slice none 0 0]] W fun e w' => e = .returned (.tuple #[.int .i64 (-1), .int .i64 0]) ∧ Below W.heap.size W w' := compareW 3 18446744073709551615 1 none none none none 0 0 0 0 0 0 0 0 [] [] W (by decide) (by decide) (by decide) (by decide) (reads_nil W) (reads_nil W) (by decide) (by decide)
theorem kCmp5 (W : World) : Calls Tryz.prog 20 #[.int .i64 5, .agg #[.int .u64 18446744073709551615, .slice none 0 0, .slice none 0 0], .agg #[.int .u64 1, .slice none 0 0, .slice none 0 0]] W fun e w' => e = .returned (.tuple #[.int .i64 1, .int .i64 0]) ∧ Below W.heap.size W w' := compareW 5 18446744073709551615 1 none none none none 0 0 0 0 0 0 0 0 [] [] W (by decide) (by decide) (by decide) (by decide) (reads_nil W) (reads_nil W) (by decide) (by decide)
theorem kCmp14 (a1 a2 : Option Addr) (c1 c2 : Nat) (W : World) (h1 : Reads W a1 1 c1 [97]) (h2 : Reads W a2 2 c2 [97, 98]) : Calls Tryz.prog 20 #[.int .i64 14, .agg #[.int .u64 0, .slice a1 1 c1, .slice none 0 0], .agg #[.int .u64 0, .slice a2 2 c2, .slice none 0 0]] W fun e w' => e = .returned (.tuple #[.int .i64 (-1), .int .i64 0]) ∧ Below W.heap.size W w' := compareW 14 0 0 a1 a2 none none 1 c1 2 c2 0 0 0 0 [97] [97, 98] W (by decide) (by decide) (by decide) (by decide) h1 h2 (by decide) (by decide)
theorem kCmp15 (a1 a2 : Option Addr) (c1 c2 : Nat) (W : World) (h1 : Reads W a1 1 c1 [97]) (h2 : Reads W a2 1 c2 [97]) : Calls Tryz.prog 20 #[.int .i64 15, .agg #[.int .u64 0, .slice a1 1 c1, .slice none 0 0], .agg #[.int .u64 0, .slice a2 1 c2, .slice none 0 0]] W fun e w' => e = .returned (.tuple #[.int .i64 0, .int .i64 18]) ∧ Below W.heap.size W w' := compareW 15 0 0 a1 a2 none none 1 c1 1 c2 0 0 0 0 [97] [97] W (by decide) (by decide) (by decide) (by decide) h1 h2 (by decide) (by decide)
end Go.Proofs.YtcenkalhklpajaaGreatDoor
namespace Go.Proofs.YtcenkalhklpajaaGreatDoor
open Go.RowKit
set_option maxRecDepth 1000000
set_option maxHeartbeats 16000000
set_option linter.unusedVariables false

theorem sameYes3 (a1 a2 : Option Addr) (l1 c1 l2 c2 : Nat) (xs : List Int) (w : World) (h1 : Reads w a1 l1 c1 xs) (h2 : Reads w a2 l2 c2 xs) :
    Calls Tryz.prog 13 #[.slice a1 l1 c1, .slice a2 l2 c2] w fun e w' => e = .returned (.bool true) ∧ Below w.heap.size w w' := (same3W a1 a2 l1 c1 l2 c2 xs xs w h1 h2).mono fun e w' h => ⟨h.1.trans (by rw [decide_eq_true rfl]), h.2 ▸ Below.refl _ _⟩
theorem below_drew1u (w : World) : Below w.heap.size w w.drew := below_drew w
theorem reads0 {w w' : World} {a : Option Addr} {c : Nat} (h : Reads w a 0 c []) : Reads w' a 0 c [] := by
  refine ⟨h.length, h.le, h.max, h.bd, .inl ⟨rfl, ?_⟩⟩
  rcases h.cells with ⟨_, h0⟩ | ⟨b, off, rfl, _⟩
  · exact h0
  · intro e; cases e
theorem scalarKnownW (w : World) (hL : Laid w) : Calls Tryz.prog 3 #[] w fun e w' => e = .returned (.bool true) ∧ Below w.heap.size w w' := by
  have HL := hid hL
  clear hL
  go_enter Tryz.func3, Tryz.ntmps3
  go_wp2_with fail
  refine (kWire6 _).mono ?_
  rintro e w' ⟨rfl, rfl⟩
  go_wp2_with fail
  refine (kWire0 _).mono ?_
  rintro e w' ⟨rfl, rfl⟩
  go_wp2_with fail
  refine (awake3 _).mono ?_
  rintro e w1 ⟨rfl, hb⟩
  have HB := hid hb
  clear hb
  go_wp2_with fail
  refine (kNum14 _).mono ?_
  rintro e w' ⟨rfl, rfl⟩
  go_wp2_with fail
  refine (kKey12 _).mono ?_
  rintro e w' ⟨rfl, rfl⟩
  go_wp2_with fail
  refine (kNum1 _).mono ?_
  rintro e w' ⟨rfl, rfl⟩
  go_wp2_with fail
  refine (kKey14 _).mono ?_
  rintro e w' ⟨rfl, rfl⟩
  go_wp2_with fail
  refine (kNm1 _).mono ?_
  rintro e w2 ⟨rfl, hb⟩
  replace HB := hid (below_trans HB.out hb)
  clear hb
  go_wp2_with fail
  refine (kPut2 _).mono ?_
  rintro e w3 ⟨pa, pc, rfl, hp, hb⟩
  replace HB := hid (below_trans HB.out hb)
  replace hp := hid hp
  clear hb
  go_wp2_with fail
  refine (kN2 _).mono ?_
  rintro e w4 ⟨rfl, hb⟩
  replace hp := hid (reads_kept hp.out hb)
  replace HB := hid (below_trans HB.out hb)
  clear hb
  go_wp2_with fail
  refine (kPut1 _).mono ?_
  rintro e w5 ⟨qa, qc, rfl, hq, hb⟩
  replace hp := hid (reads_kept hp.out hb)
  replace HB := hid (below_trans HB.out hb)
  clear hq
  clear hb
  go_wp2_with fail
  refine (kNm2 _).mono ?_
  rintro e w6 ⟨rfl, hb⟩
  replace hp := hid (reads_kept hp.out hb)
  replace HB := hid (below_trans HB.out hb)
  clear hb
  go_wp2_with fail
  refine (kPut10 _).mono ?_
  rintro e w7 ⟨ra, rc, rfl, hr, hb⟩
  replace hp := hid (reads_kept hp.out hb)
  replace HB := hid (below_trans HB.out hb)
  replace hr := hid hr
  clear hb
  go_wp2_with fail
  refine (sW (some ⟨w7.heap.size, 0, none⟩) 1 1 _).mono ?_
  rintro e w8 ⟨rfl, hb⟩
  replace hp := hid (reads_kept hp.out (below_trans (below_alloc _) hb))
  replace hr := hid (reads_kept hr.out (below_trans (below_alloc _) hb))
  replace HB := hid (below_trans HB.out (below_trans (below_alloc _) hb))
  have hs := hid (reads_kept (reads_new w7 [255] (by decide) (by decide)) hb)
  clear hb
  go_wp2_with fail
  refine (kPut14 (some ⟨w7.heap.size, 0, none⟩) 1 _ hs.out).mono ?_
  rintro e w9 ⟨qa, qc, rfl, hq, hb⟩
  replace hp := hid (reads_kept hp.out hb)
  replace hr := hid (reads_kept hr.out hb)
  replace HB := hid (below_trans HB.out hb)
  clear hq hs
  clear hb
  go_wp2_with fail
  refine (sameYes3 pa (some ⟨w9.heap.size, 0, none⟩) 10 pc 10 10 [255, 255, 255, 255, 255, 255, 255, 255, 255, 1] _ (reads_kept hp.out (below_alloc _)) (reads_new w9 [255, 255, 255, 255, 255, 255, 255, 255, 255, 1] (by decide) (by decide))).mono ?_
  rintro e w10 ⟨rfl, hb⟩
  replace hp := hid (reads_kept hp.out (below_trans (below_alloc _) hb))
  replace hr := hid (reads_kept hr.out (below_trans (below_alloc _) hb))
  replace HB := hid (below_trans HB.out (below_trans (below_alloc _) hb))
  clear hb
  go_wp2_with fail
  refine (sameYes3 ra (some ⟨w10.heap.size, 0, none⟩) 4 rc 4 4 [254, 255, 255, 255] _ (reads_kept hr.out (below_alloc _)) (reads_new w10 [254, 255, 255, 255] (by decide) (by decide))).mono ?_
  rintro e w11 ⟨rfl, hb⟩
  replace hp := hid (reads_kept hp.out (below_trans (below_alloc _) hb))
  replace hr := hid (reads_kept hr.out (below_trans (below_alloc _) hb))
  replace HB := hid (below_trans HB.out (below_trans (below_alloc _) hb))
  clear hp hr
  clear hb
  go_wp2_with fail
  refine (gotYes 2 (some ⟨w11.heap.size + 1, 0, none⟩) 5 5 [255, 255, 255, 255, 15] 0 0 7 _ (by simpa using reads_new (w11.alloc (.cells #[.int .u64 0, .slice none 0 0, .slice none 0 0] 33)) [255, 255, 255, 255, 15] (by decide) (by decide)) (by decide) (by rfl)).mono ?_
  rintro e w12 ⟨rfl, hb⟩
  replace HB := hid (below_trans HB.out (below_trans (below_alloc _) (below_trans (below_alloc _) hb)))
  obtain ⟨d0, d1, d2⟩ := cells_past hb
  clear hb
  have hlt := block_lt d0
  go_wp2_with fail
  refine (kN4294967295 _).mono ?_
  rintro e w13 ⟨rfl, hb⟩
  replace d0 := cell_kept (below_trans (below_alloc _) hb) d0
  replace d1 := cell_kept (below_trans (below_alloc _) hb) d1
  replace d2 := cell_kept (below_trans (below_alloc _) hb) d2
  replace HB := hid (below_trans HB.out (below_trans (below_alloc _) hb))
  have hs := hid (reads_kept (reads_new w12 [255, 255, 255, 255, 15] (by decide) (by decide)) hb)
  clear hb
  clear hlt
  go_wp2_with fail
  refine (gotYes 4 (some ⟨w12.heap.size, 0, none⟩) 5 5 [255, 255, 255, 255, 15] 4294967295 5 0 _ hs.out (by decide) (by rfl)).mono ?_
  rintro e w14 ⟨rfl, hb⟩
  replace d0 := cell_kept hb d0
  replace d1 := cell_kept hb d1
  replace d2 := cell_kept hb d2
  replace HB := hid (below_trans HB.out hb)
  clear hs
  clear hb
  have hlt := block_lt d0
  go_wp2_with fail
  refine (gotYes 1 (some ⟨w14.heap.size, 0, none⟩) 1 1 [2] 0 0 7 _ (reads_new w14 [2] (by decide) (by decide)) (by decide) (by rfl)).mono ?_
  rintro e w15 ⟨rfl, hb⟩
  replace d0 := cell_kept (below_trans (below_alloc _) hb) d0
  replace d1 := cell_kept (below_trans (below_alloc _) hb) d1
  replace d2 := cell_kept (below_trans (below_alloc _) hb) d2
  replace HB := hid (below_trans HB.out (below_trans (below_alloc _) hb))
  clear hb
  clear hlt
  have hlt := block_lt d0
  go_wp2_with fail
  refine (gotYes 16 (some ⟨w15.heap.size, 0, none⟩) 5 5 [128, 128, 128, 128, 8] 0 0 7 _ (reads_new w15 [128, 128, 128, 128, 8] (by decide) (by decide)) (by decide) (by rfl)).mono ?_
  rintro e w16 ⟨rfl, hb⟩
  replace d0 := cell_kept (below_trans (below_alloc _) hb) d0
  replace d1 := cell_kept (below_trans (below_alloc _) hb) d1
  replace d2 := cell_kept (below_trans (below_alloc _) hb) d2
  replace HB := hid (below_trans HB.out (below_trans (below_alloc _) hb))
  clear hb
  clear hlt
  have hlt := block_lt d0
  go_wp2_with fail
  refine (gotYes 15 (some ⟨w16.heap.size, 0, none⟩) 1 1 [1] 0 0 3 _ (reads_new w16 [1] (by decide) (by decide)) (by decide) (by rfl)).mono ?_
  rintro e w17 ⟨rfl, hb⟩
  replace d0 := cell_kept (below_trans (below_alloc _) hb) d0
  replace d1 := cell_kept (below_trans (below_alloc _) hb) d1
  replace d2 := cell_kept (below_trans (below_alloc _) hb) d2
  replace HB := hid (below_trans HB.out (below_trans (below_alloc _) hb))
  clear hb
  clear hlt
  clear d0 d1 d2
  go_wp2_with fail
  refine (kName11 _).mono ?_
  rintro e w' ⟨rfl, rfl⟩
  go_wp2_with fail
  refine (kName16 _).mono ?_
  rintro e w' ⟨rfl, rfl⟩
  go_wp2_with fail
  refine (kKindD _).mono ?_
  rintro e w' ⟨rfl, rfl⟩
  go_wp2_with fail
  refine (kKindB _).mono ?_
  rintro e w' ⟨rfl, rfl⟩
  go_wp2_with fail
  refine (kText13 _ (HL.out.kept HB.out)).mono ?_
  rintro e w18 ⟨rfl, hb⟩
  replace HB := hid (below_trans HB.out hb)
  clear hb
  go_wp2_with fail
  refine (kN1 _).mono ?_
  rintro e w19 ⟨rfl, hb⟩
  replace HB := hid (below_trans HB.out hb)
  clear hb
  go_wp2_with fail
  refine (kText1 _ (HL.out.kept HB.out)).mono ?_
  rintro e w20 ⟨rfl, hb⟩
  replace HB := hid (below_trans HB.out hb)
  clear hb
  go_wp2_with fail
  refine (kParse12 _ (HL.out.kept HB.out)).mono ?_
  rintro e w21 ⟨xa, xc, rfl, hx, hb⟩
  replace HB := hid (below_trans HB.out hb)
  replace hx := hid hx
  clear hb
  go_wp2_with fail
  refine (kParse4 _ (HL.out.kept (below_trans HB.out (below_alloc _)))).mono ?_
  rintro e w22 ⟨ya, yc, rfl, hy, hb⟩
  replace HB := hid (below_trans HB.out (below_trans (below_alloc _) hb))
  obtain ⟨f0, f1, f2⟩ := vcells hb
  replace hy := hid hy
  clear hb
  have hlf := block_lt f0
  go_wp2_with fail
  refine (kParse2 _ (HL.out.kept (below_trans HB.out (below_alloc _)))).mono ?_
  rintro e w23 ⟨za, zc, rfl, hz, hb⟩
  replace f0 := cell_kept (below_trans (below_alloc _) hb) f0
  replace f1 := cell_kept (below_trans (below_alloc _) hb) f1
  replace f2 := cell_kept (below_trans (below_alloc _) hb) f2
  replace HB := hid (below_trans HB.out (below_trans (below_alloc _) hb))
  obtain ⟨g0, g1, g2⟩ := vcells hb
  replace hz := hid hz
  clear hb
  clear hlf
  have hlf := block_lt f0
  have hlg := block_lt g0
  go_wp2_with fail
  obtain ⟨e0, e1, e2⟩ := vcells (Below.refl (w23.alloc (.cells #[.int .u64 0, .slice za 0 zc, .slice none 0 0] 33)).heap.size (w23.alloc (.cells #[.int .u64 0, .slice za 0 zc, .slice none 0 0] 33)))
  replace f0 := cell_kept (below_alloc (.cells #[.int .u64 0, .slice za 0 zc, .slice none 0 0] 33)) f0
  replace f1 := cell_kept (below_alloc (.cells #[.int .u64 0, .slice za 0 zc, .slice none 0 0] 33)) f1
  replace f2 := cell_kept (below_alloc (.cells #[.int .u64 0, .slice za 0 zc, .slice none 0 0] 33)) f2
  replace g0 := cell_kept (below_alloc (.cells #[.int .u64 0, .slice za 0 zc, .slice none 0 0] 33)) g0
  replace g1 := cell_kept (below_alloc (.cells #[.int .u64 0, .slice za 0 zc, .slice none 0 0] 33)) g1
  replace g2 := cell_kept (below_alloc (.cells #[.int .u64 0, .slice za 0 zc, .slice none 0 0] 33)) g2
  replace HB := hid (below_trans HB.out (below_alloc (.cells #[.int .u64 0, .slice za 0 zc, .slice none 0 0] 33)))
  generalize (w23.alloc (.cells #[.int .u64 0, .slice za 0 zc, .slice none 0 0] 33)) = w24 at *
  go_region_held3 (fun w' => w'.cell? ⟨w21.heap.size, 0, none⟩ = some (.int .u64 1065353216) ∧ w'.cell? ⟨w21.heap.size, 1, none⟩ = some (.slice xa 0 xc) ∧ w'.cell? ⟨w21.heap.size, 2, none⟩ = some (.slice none 0 0) ∧ w'.cell? ⟨w22.heap.size, 0, none⟩ = some (.int .u64 0) ∧ w'.cell? ⟨w22.heap.size, 1, none⟩ = some (.slice ya 0 yc) ∧ w'.cell? ⟨w22.heap.size, 2, none⟩ = some (.slice none 0 0) ∧ w'.cell? ⟨w23.heap.size, 0, none⟩ = some (.int .u64 0) ∧ w'.cell? ⟨w23.heap.size, 1, none⟩ = some (.slice za 0 zc) ∧ w'.cell? ⟨w23.heap.size, 2, none⟩ = some (.slice none 0 0)) (exact ⟨f0, f1, f2, g0, g1, g2, e0, e1, e2⟩) (first | (go_at_call 11; refine (kN1065353216 _).mono ?_; rintro e wn ⟨rfl, hb⟩; replace f0 := cell_kept (below_trans (by first | exact Below.refl _ _ | exact below_drew1u _ | exact below_drewN _ _) hb) f0; replace f1 := cell_kept (below_trans (by first | exact Below.refl _ _ | exact below_drew1u _ | exact below_drewN _ _) hb) f1; replace f2 := cell_kept (below_trans (by first | exact Below.refl _ _ | exact below_drew1u _ | exact below_drewN _ _) hb) f2; replace g0 := cell_kept (below_trans (by first | exact Below.refl _ _ | exact below_drew1u _ | exact below_drewN _ _) hb) g0; replace g1 := cell_kept (below_trans (by first | exact Below.refl _ _ | exact below_drew1u _ | exact below_drewN _ _) hb) g1; replace g2 := cell_kept (below_trans (by first | exact Below.refl _ _ | exact below_drew1u _ | exact below_drewN _ _) hb) g2; replace e0 := cell_kept (below_trans (by first | exact Below.refl _ _ | exact below_drew1u _ | exact below_drewN _ _) hb) e0; replace e1 := cell_kept (below_trans (by first | exact Below.refl _ _ | exact below_drew1u _ | exact below_drewN _ _) hb) e1; replace e2 := cell_kept (below_trans (by first | exact Below.refl _ _ | exact below_drew1u _ | exact below_drewN _ _) hb) e2; replace HB := hid (below_trans HB.out (below_trans (by first | exact Below.refl _ _ | exact below_drew1u _ | exact below_drewN _ _) hb)); replace hb := hid hb) | (go_at_call_of 19 (Value.agg #[Value.int .u64 1065353216, Value.slice xa 0 xc, Value.slice none 0 0]); refine (toldYes 1065353216 1065353216 xa none none none 0 xc 0 0 0 0 [] [] _ 0 (reads0 hx.out) (reads_nil _) (by simp) (by simp)).mono ?_; rintro e wt ⟨rfl, hb⟩; replace f0 := cell_kept (below_trans (by first | exact Below.refl _ _ | exact below_drew1u _ | exact below_drewN _ _) hb) f0; replace f1 := cell_kept (below_trans (by first | exact Below.refl _ _ | exact below_drew1u _ | exact below_drewN _ _) hb) f1; replace f2 := cell_kept (below_trans (by first | exact Below.refl _ _ | exact below_drew1u _ | exact below_drewN _ _) hb) f2; replace g0 := cell_kept (below_trans (by first | exact Below.refl _ _ | exact below_drew1u _ | exact below_drewN _ _) hb) g0; replace g1 := cell_kept (below_trans (by first | exact Below.refl _ _ | exact below_drew1u _ | exact below_drewN _ _) hb) g1; replace g2 := cell_kept (below_trans (by first | exact Below.refl _ _ | exact below_drew1u _ | exact below_drewN _ _) hb) g2; replace e0 := cell_kept (below_trans (by first | exact Below.refl _ _ | exact below_drew1u _ | exact below_drewN _ _) hb) e0; replace e1 := cell_kept (below_trans (by first | exact Below.refl _ _ | exact below_drew1u _ | exact below_drewN _ _) hb) e1; replace e2 := cell_kept (below_trans (by first | exact Below.refl _ _ | exact below_drew1u _ | exact below_drewN _ _) hb) e2; replace HB := hid (below_trans HB.out (below_trans (by first | exact Below.refl _ _ | exact below_drew1u _ | exact below_drewN _ _) hb)); replace hb := hid hb) | (go_at_call_of 19 (Value.agg #[Value.int .u64 0, Value.slice ya 0 yc, Value.slice none 0 0]); refine (toldYes 0 0 ya ya none none 0 yc 0 yc 0 0 [] [] _ 11 (reads0 hy.out) (reads0 hy.out) (by simp) (by simp)).mono ?_; rintro e wt ⟨rfl, hb⟩; replace f0 := cell_kept (below_trans (by first | exact Below.refl _ _ | exact below_drew1u _ | exact below_drewN _ _) hb) f0; replace f1 := cell_kept (below_trans (by first | exact Below.refl _ _ | exact below_drew1u _ | exact below_drewN _ _) hb) f1; replace f2 := cell_kept (below_trans (by first | exact Below.refl _ _ | exact below_drew1u _ | exact below_drewN _ _) hb) f2; replace g0 := cell_kept (below_trans (by first | exact Below.refl _ _ | exact below_drew1u _ | exact below_drewN _ _) hb) g0; replace g1 := cell_kept (below_trans (by first | exact Below.refl _ _ | exact below_drew1u _ | exact below_drewN _ _) hb) g1; replace g2 := cell_kept (below_trans (by first | exact Below.refl _ _ | exact below_drew1u _ | exact below_drewN _ _) hb) g2; replace e0 := cell_kept (below_trans (by first | exact Below.refl _ _ | exact below_drew1u _ | exact below_drewN _ _) hb) e0; replace e1 := cell_kept (below_trans (by first | exact Below.refl _ _ | exact below_drew1u _ | exact below_drewN _ _) hb) e1; replace e2 := cell_kept (below_trans (by first | exact Below.refl _ _ | exact below_drew1u _ | exact below_drewN _ _) hb) e2; replace HB := hid (below_trans HB.out (below_trans (by first | exact Below.refl _ _ | exact below_drew1u _ | exact below_drewN _ _) hb)); replace hb := hid hb) | (go_at_call_of 19 (Value.agg #[Value.int .u64 0, Value.slice za 0 zc, Value.slice none 0 0]); refine (toldYes 0 0 za za none none 0 zc 0 zc 0 0 [] [] _ 7 (reads0 hz.out) (reads0 hz.out) (by simp) (by simp)).mono ?_; rintro e wt ⟨rfl, hb⟩; replace f0 := cell_kept (below_trans (by first | exact Below.refl _ _ | exact below_drew1u _ | exact below_drewN _ _) hb) f0; replace f1 := cell_kept (below_trans (by first | exact Below.refl _ _ | exact below_drew1u _ | exact below_drewN _ _) hb) f1; replace f2 := cell_kept (below_trans (by first | exact Below.refl _ _ | exact below_drew1u _ | exact below_drewN _ _) hb) f2; replace g0 := cell_kept (below_trans (by first | exact Below.refl _ _ | exact below_drew1u _ | exact below_drewN _ _) hb) g0; replace g1 := cell_kept (below_trans (by first | exact Below.refl _ _ | exact below_drew1u _ | exact below_drewN _ _) hb) g1; replace g2 := cell_kept (below_trans (by first | exact Below.refl _ _ | exact below_drew1u _ | exact below_drewN _ _) hb) g2; replace e0 := cell_kept (below_trans (by first | exact Below.refl _ _ | exact below_drew1u _ | exact below_drewN _ _) hb) e0; replace e1 := cell_kept (below_trans (by first | exact Below.refl _ _ | exact below_drew1u _ | exact below_drewN _ _) hb) e1; replace e2 := cell_kept (below_trans (by first | exact Below.refl _ _ | exact below_drew1u _ | exact below_drewN _ _) hb) e2; replace HB := hid (below_trans HB.out (below_trans (by first | exact Below.refl _ _ | exact below_drew1u _ | exact below_drewN _ _) hb)); replace hb := hid hb))
  clear f0 f1 f2 g0 g1 g2 e0 e1 e2 hx hy hz hlf hlg
  go_wp2_with fail
  refine (kNm1 _).mono ?_
  rintro e v1 ⟨rfl, hb⟩
  replace HB := hid (below_trans HB.out (below_trans (by first | exact Below.refl _ _ | exact below_drew1u _ | exact below_drewN _ _) hb))
  clear hb
  go_wp2_with fail
  refine (kN1 _).mono ?_
  rintro e v2 ⟨rfl, hb⟩
  replace HB := hid (below_trans HB.out hb)
  clear hb
  go_wp2_with fail
  refine (kCmp3 _).mono ?_
  rintro e v3 ⟨rfl, hb⟩
  replace HB := hid (below_trans HB.out hb)
  clear hb
  go_wp2_with fail
  refine (kNm1 _).mono ?_
  rintro e v4 ⟨rfl, hb⟩
  replace HB := hid (below_trans HB.out hb)
  clear hb
  go_wp2_with fail
  refine (kN1 _).mono ?_
  rintro e v5 ⟨rfl, hb⟩
  replace HB := hid (below_trans HB.out hb)
  clear hb
  go_wp2_with fail
  refine (kCmp5 _).mono ?_
  rintro e v6 ⟨rfl, hb⟩
  replace HB := hid (below_trans HB.out hb)
  clear hb
  go_wp2_with fail
  refine (sW (some ⟨v6.heap.size, 0, none⟩) 1 1 _).mono ?_
  rintro e v7 ⟨rfl, hb⟩
  have h1 := hid (reads_kept (reads_new v6 [97] (by decide) (by decide)) hb)
  replace HB := hid (below_trans HB.out (below_trans (below_alloc _) hb))
  clear hb
  go_wp2_with fail
  refine (sW (some ⟨v7.heap.size, 0, none⟩) 2 2 _).mono ?_
  rintro e v8 ⟨rfl, hb⟩
  have h2 := hid (reads_kept (reads_new v7 [97, 98] (by decide) (by decide)) hb)
  replace h1 := hid (reads_kept h1.out (below_trans (below_alloc _) hb))
  replace HB := hid (below_trans HB.out (below_trans (below_alloc _) hb))
  clear hb
  go_wp2_with fail
  refine (kCmp14 (some ⟨v6.heap.size, 0, none⟩) (some ⟨v7.heap.size, 0, none⟩) 1 2 _ h1.out h2.out).mono ?_
  rintro e v9 ⟨rfl, hb⟩
  clear h1 h2
  replace HB := hid (below_trans HB.out hb)
  clear hb
  go_wp2_with fail
  refine (sW (some ⟨v9.heap.size, 0, none⟩) 1 1 _).mono ?_
  rintro e v10 ⟨rfl, hb⟩
  have h1 := hid (reads_kept (reads_new v9 [97] (by decide) (by decide)) hb)
  replace HB := hid (below_trans HB.out (below_trans (below_alloc _) hb))
  clear hb
  go_wp2_with fail
  refine (sW (some ⟨v10.heap.size, 0, none⟩) 1 1 _).mono ?_
  rintro e v11 ⟨rfl, hb⟩
  have h2 := hid (reads_kept (reads_new v10 [97] (by decide) (by decide)) hb)
  replace h1 := hid (reads_kept h1.out (below_trans (below_alloc _) hb))
  replace HB := hid (below_trans HB.out (below_trans (below_alloc _) hb))
  clear hb
  go_wp2_with fail
  refine (kCmp15 (some ⟨v9.heap.size, 0, none⟩) (some ⟨v10.heap.size, 0, none⟩) 1 1 _ h1.out h2.out).mono ?_
  rintro e v12 ⟨rfl, hb⟩
  clear h1 h2
  replace HB := hid (below_trans HB.out hb)
  clear hb
  go_wp2
  go_ret
  exact ⟨rfl, HB.out⟩
end Go.Proofs.YtcenkalhklpajaaGreatDoor
