/-
  P3.6: an order. The law's walk.
-/
import Derived.Test.YtgcimeldofbgkabSQ
namespace Go.Proofs.Ytgcimeldofbgkab
open Go.RowKit
set_option maxRecDepth 1000000
set_option maxHeartbeats 8000000

/-- Three values' own cells. -/
def Cells3 (n1 n2 n3 : Int) (a1 a2 a3 p1 p2 p3 : Option Addr) (l1 c1 l2 c2 l3 c3 m1 m2 m3 q1 q2 q3 : Nat) (b : Nat) (W : World) : Prop := (W.cell? ⟨b, 0, none⟩ = some (.int .u64 n1) ∧ W.cell? ⟨b, 1, none⟩ = some (.slice a1 l1 c1) ∧ W.cell? ⟨b, 2, none⟩ = some (.slice p1 m1 q1)) ∧ (W.cell? ⟨b + 1, 0, none⟩ = some (.int .u64 n2) ∧ W.cell? ⟨b + 1, 1, none⟩ = some (.slice a2 l2 c2) ∧ W.cell? ⟨b + 1, 2, none⟩ = some (.slice p2 m2 q2)) ∧ (W.cell? ⟨b + 1 + 1, 0, none⟩ = some (.int .u64 n3) ∧ W.cell? ⟨b + 1 + 1, 1, none⟩ = some (.slice a3 l3 c3) ∧ W.cell? ⟨b + 1 + 1, 2, none⟩ = some (.slice p3 m3 q3))
theorem Cells3.kept {n1 n2 n3 : Int} {a1 a2 a3 p1 p2 p3 : Option Addr} {l1 c1 l2 c2 l3 c3 m1 m2 m3 q1 q2 q3 : Nat} {b : Nat} {W W' : World} (h : Cells3 n1 n2 n3 a1 a2 a3 p1 p2 p3 l1 c1 l2 c2 l3 c3 m1 m2 m3 q1 q2 q3 b W) (hb : Below W.heap.size W W') : Cells3 n1 n2 n3 a1 a2 a3 p1 p2 p3 l1 c1 l2 c2 l3 c3 m1 m2 m3 q1 q2 q3 b W' := by
  obtain ⟨⟨h1, h2, h3⟩, ⟨h4, h5, h6⟩, ⟨h7, h8, h9⟩⟩ := h
  exact ⟨⟨cell_kept hb h1, cell_kept hb h2, cell_kept hb h3⟩, ⟨cell_kept hb h4, cell_kept hb h5, cell_kept hb h6⟩, ⟨cell_kept hb h7, cell_kept hb h8, cell_kept hb h9⟩⟩
theorem three_cells {w w2 : World} {x y z x' y' z' x'' y'' z'' : Value} (hb : Below (((w.alloc (.cells #[x, y, z] 26)).alloc (.cells #[x', y', z'] 26)).alloc (.cells #[x'', y'', z''] 26)).heap.size (((w.alloc (.cells #[x, y, z] 26)).alloc (.cells #[x', y', z'] 26)).alloc (.cells #[x'', y'', z''] 26)) w2) :
    (w2.cell? ⟨w.heap.size, 0, none⟩ = some x ∧ w2.cell? ⟨w.heap.size, 1, none⟩ = some y ∧ w2.cell? ⟨w.heap.size, 2, none⟩ = some z) ∧ (w2.cell? ⟨w.heap.size + 1, 0, none⟩ = some x' ∧ w2.cell? ⟨w.heap.size + 1, 1, none⟩ = some y' ∧ w2.cell? ⟨w.heap.size + 1, 2, none⟩ = some z') ∧ (w2.cell? ⟨w.heap.size + 1 + 1, 0, none⟩ = some x'' ∧ w2.cell? ⟨w.heap.size + 1 + 1, 1, none⟩ = some y'' ∧ w2.cell? ⟨w.heap.size + 1 + 1, 2, none⟩ = some z'') ∧ Below w.heap.size w w2 := by
  have h0 : Below ((w.alloc (.cells #[x, y, z] 26)).alloc (.cells #[x', y', z'] 26)).heap.size ((w.alloc (.cells #[x, y, z] 26)).alloc (.cells #[x', y', z'] 26)) w2 := (below_alloc _).trans (hb.mono (by simp))
  obtain ⟨g0, g1, _, _, _, g2⟩ := two_cells h0
  have h2 := vcells (w := (w.alloc (.cells #[x, y, z] 26)).alloc (.cells #[x', y', z'] 26)) hb
  simp only [World.size_alloc] at h2
  exact ⟨g0, g1, h2, g2⟩

section
variable (k : Int) (n1 n2 n3 : Int) (a1 a2 a3 p1 p2 p3 : Option Addr) (l1 c1 l2 c2 l3 c3 m1 m2 m3 q1 q2 q3 : Nat) (w : World)
/-- What is told of one comparison, wherever it is asked. -/
def Cmp (k n1 n2 : Int) (a1 a2 p1 p2 : Option Addr) (l1 c1 l2 c2 m1 m2 q1 q2 : Nat) (w : World) (c e : Int) : Prop := ∀ W : World, Below w.heap.size w W → Calls Try.prog 5 #[.int .i64 k, .agg #[.int .u64 n1, .slice a1 l1 c1, .slice p1 m1 q1], .agg #[.int .u64 n2, .slice a2 l2 c2, .slice p2 m2 q2]] W fun r w' => r = .returned (.tuple #[.int .i64 c, .int .i64 e]) ∧ Below W.heap.size W w'
theorem chainErr (cx cy cz cw ex ey ez ew : Int)
    (HX : Cmp k n1 n2 a1 a2 p1 p2 l1 c1 l2 c2 m1 m2 q1 q2 w cx ex) (HY : Cmp k n2 n1 a2 a1 p2 p1 l2 c2 l1 c1 m2 m1 q2 q1 w cy ey) (HZ : Cmp k n2 n3 a2 a3 p2 p3 l2 c2 l3 c3 m2 m3 q2 q3 w cz ez) (HW : Cmp k n1 n3 a1 a3 p1 p3 l1 c1 l3 c3 m1 m3 q1 q3 w cw ew)
    (hc : (ex ≠ 0 ∧ ey = ex ∧ cx = 0 ∧ cy = 0) ∨ (ex = 0 ∧ ey = 0 ∧ (ez ≠ 0 ∨ ew ≠ 0))) :
    Calls Try.prog 3 #[.int .i64 k, .agg #[.int .u64 n1, .slice a1 l1 c1, .slice p1 m1 q1], .agg #[.int .u64 n2, .slice a2 l2 c2, .slice p2 m2 q2], .agg #[.int .u64 n3, .slice a3 l3 c3, .slice p3 m3 q3]] w fun e w' => e = .returned (.bool true) ∧ Below w.heap.size w w' := by
  replace HX := hid HX; replace HY := hid HY; replace HZ := hid HZ; replace HW := hid HW
  have hc2 : (ex ≠ 0 ∧ ey = ex ∧ cx = 0 ∧ cy = 0) ∨ (ex = 0 ∧ ey = 0 ∧ ez ≠ 0) ∨ (ex = 0 ∧ ey = 0 ∧ ez = 0 ∧ ew ≠ 0) := by
    rcases hc with h | ⟨h1, h2, h3 | h3⟩
    · exact .inl h
    · exact .inr (.inl ⟨h1, h2, h3⟩)
    · by_cases hz : ez = 0
      · exact .inr (.inr ⟨h1, h2, hz, h3⟩)
      · exact .inr (.inl ⟨h1, h2, hz⟩)
  clear hc
  rcases hc2 with ⟨he, rfl, rfl, rfl⟩ | ⟨rfl, rfl, he⟩ | ⟨rfl, rfl, rfl, he⟩
  · have hn : (ey != 0) = true := by simpa using he
    have hn2 : (ey == 0) = false := by simpa using he
    have hs : (ey == ey) = true := by simp
    clear he
    go_enter Try.func3, Try.ntmps3
    go_wp2_with fail
    refine (awake3 _).mono ?_
    rintro e v1 ⟨rfl, hb⟩
    obtain ⟨hc1, hc2, hc3, hbel⟩ := three_cells hb
    have H9 : Hid (Cells3 n1 n2 n3 a1 a2 a3 p1 p2 p3 l1 c1 l2 c2 l3 c3 m1 m2 m3 q1 q2 q3 w.heap.size v1) := hid ⟨hc1, hc2, hc3⟩
    have HB := hid hbel
    clear hb hc1 hc2 hc3 hbel
    obtain ⟨⟨d0, d1, d2⟩, ⟨f0, f1, f2⟩, ⟨g0, g1, g2⟩⟩ := H9.out
    go_wp2_with fail
    refine (HX.out _ HB.out).mono ?_
    rintro e v2 ⟨rfl, hb⟩
    replace H9 := hid (H9.out.kept hb)
    replace HB := hid (below_trans HB.out hb)
    clear hb d0 d1 d2 f0 f1 f2 g0 g1 g2
    obtain ⟨⟨d0, d1, d2⟩, ⟨f0, f1, f2⟩, ⟨g0, g1, g2⟩⟩ := H9.out
    go_wp2_with fail
    refine (HY.out _ HB.out).mono ?_
    rintro e v3 ⟨rfl, hb⟩
    replace H9 := hid (H9.out.kept hb)
    replace HB := hid (below_trans HB.out hb)
    clear hb d0 d1 d2 f0 f1 f2 g0 g1 g2
    obtain ⟨⟨d0, d1, d2⟩, ⟨f0, f1, f2⟩, ⟨g0, g1, g2⟩⟩ := H9.out
    go_wp2_with fail
    refine (HZ.out _ HB.out).mono ?_
    rintro e v4 ⟨rfl, hb⟩
    replace H9 := hid (H9.out.kept hb)
    replace HB := hid (below_trans HB.out hb)
    clear hb d0 d1 d2 f0 f1 f2 g0 g1 g2
    obtain ⟨⟨d0, d1, d2⟩, ⟨f0, f1, f2⟩, ⟨g0, g1, g2⟩⟩ := H9.out
    go_wp2_with fail
    refine (HW.out _ HB.out).mono ?_
    rintro e v5 ⟨rfl, hb⟩
    replace H9 := hid (H9.out.kept hb)
    replace HB := hid (below_trans HB.out hb)
    clear hb d0 d1 d2 f0 f1 f2 g0 g1 g2
    obtain ⟨⟨d0, d1, d2⟩, ⟨f0, f1, f2⟩, ⟨g0, g1, g2⟩⟩ := H9.out
    go_wp2
    go_ret
    exact ⟨rfl, HB.out⟩
  · have hn : (ez != 0) = true := by simpa using he
    clear he
    go_enter Try.func3, Try.ntmps3
    go_wp2_with fail
    refine (awake3 _).mono ?_
    rintro e v1 ⟨rfl, hb⟩
    obtain ⟨hc1, hc2, hc3, hbel⟩ := three_cells hb
    have H9 : Hid (Cells3 n1 n2 n3 a1 a2 a3 p1 p2 p3 l1 c1 l2 c2 l3 c3 m1 m2 m3 q1 q2 q3 w.heap.size v1) := hid ⟨hc1, hc2, hc3⟩
    have HB := hid hbel
    clear hb hc1 hc2 hc3 hbel
    obtain ⟨⟨d0, d1, d2⟩, ⟨f0, f1, f2⟩, ⟨g0, g1, g2⟩⟩ := H9.out
    go_wp2_with fail
    refine (HX.out _ HB.out).mono ?_
    rintro e v2 ⟨rfl, hb⟩
    replace H9 := hid (H9.out.kept hb)
    replace HB := hid (below_trans HB.out hb)
    clear hb d0 d1 d2 f0 f1 f2 g0 g1 g2
    obtain ⟨⟨d0, d1, d2⟩, ⟨f0, f1, f2⟩, ⟨g0, g1, g2⟩⟩ := H9.out
    go_wp2_with fail
    refine (HY.out _ HB.out).mono ?_
    rintro e v3 ⟨rfl, hb⟩
    replace H9 := hid (H9.out.kept hb)
    replace HB := hid (below_trans HB.out hb)
    clear hb d0 d1 d2 f0 f1 f2 g0 g1 g2
    obtain ⟨⟨d0, d1, d2⟩, ⟨f0, f1, f2⟩, ⟨g0, g1, g2⟩⟩ := H9.out
    go_wp2_with fail
    refine (HZ.out _ HB.out).mono ?_
    rintro e v4 ⟨rfl, hb⟩
    replace H9 := hid (H9.out.kept hb)
    replace HB := hid (below_trans HB.out hb)
    clear hb d0 d1 d2 f0 f1 f2 g0 g1 g2
    obtain ⟨⟨d0, d1, d2⟩, ⟨f0, f1, f2⟩, ⟨g0, g1, g2⟩⟩ := H9.out
    go_wp2_with fail
    refine (HW.out _ HB.out).mono ?_
    rintro e v5 ⟨rfl, hb⟩
    replace H9 := hid (H9.out.kept hb)
    replace HB := hid (below_trans HB.out hb)
    clear hb d0 d1 d2 f0 f1 f2 g0 g1 g2
    obtain ⟨⟨d0, d1, d2⟩, ⟨f0, f1, f2⟩, ⟨g0, g1, g2⟩⟩ := H9.out
    go_wp2
    go_ret
    exact ⟨rfl, HB.out⟩
  · have hn : (ew != 0) = true := by simpa using he
    clear he
    go_enter Try.func3, Try.ntmps3
    go_wp2_with fail
    refine (awake3 _).mono ?_
    rintro e v1 ⟨rfl, hb⟩
    obtain ⟨hc1, hc2, hc3, hbel⟩ := three_cells hb
    have H9 : Hid (Cells3 n1 n2 n3 a1 a2 a3 p1 p2 p3 l1 c1 l2 c2 l3 c3 m1 m2 m3 q1 q2 q3 w.heap.size v1) := hid ⟨hc1, hc2, hc3⟩
    have HB := hid hbel
    clear hb hc1 hc2 hc3 hbel
    obtain ⟨⟨d0, d1, d2⟩, ⟨f0, f1, f2⟩, ⟨g0, g1, g2⟩⟩ := H9.out
    go_wp2_with fail
    refine (HX.out _ HB.out).mono ?_
    rintro e v2 ⟨rfl, hb⟩
    replace H9 := hid (H9.out.kept hb)
    replace HB := hid (below_trans HB.out hb)
    clear hb d0 d1 d2 f0 f1 f2 g0 g1 g2
    obtain ⟨⟨d0, d1, d2⟩, ⟨f0, f1, f2⟩, ⟨g0, g1, g2⟩⟩ := H9.out
    go_wp2_with fail
    refine (HY.out _ HB.out).mono ?_
    rintro e v3 ⟨rfl, hb⟩
    replace H9 := hid (H9.out.kept hb)
    replace HB := hid (below_trans HB.out hb)
    clear hb d0 d1 d2 f0 f1 f2 g0 g1 g2
    obtain ⟨⟨d0, d1, d2⟩, ⟨f0, f1, f2⟩, ⟨g0, g1, g2⟩⟩ := H9.out
    go_wp2_with fail
    refine (HZ.out _ HB.out).mono ?_
    rintro e v4 ⟨rfl, hb⟩
    replace H9 := hid (H9.out.kept hb)
    replace HB := hid (below_trans HB.out hb)
    clear hb d0 d1 d2 f0 f1 f2 g0 g1 g2
    obtain ⟨⟨d0, d1, d2⟩, ⟨f0, f1, f2⟩, ⟨g0, g1, g2⟩⟩ := H9.out
    go_wp2_with fail
    refine (HW.out _ HB.out).mono ?_
    rintro e v5 ⟨rfl, hb⟩
    replace H9 := hid (H9.out.kept hb)
    replace HB := hid (below_trans HB.out hb)
    clear hb d0 d1 d2 f0 f1 f2 g0 g1 g2
    obtain ⟨⟨d0, d1, d2⟩, ⟨f0, f1, f2⟩, ⟨g0, g1, g2⟩⟩ := H9.out
    go_wp2
    go_ret
    exact ⟨rfl, HB.out⟩

theorem chainOk (cx cy cz cw : Int) (b : Bool)
    (HX : Cmp k n1 n2 a1 a2 p1 p2 l1 c1 l2 c2 m1 m2 q1 q2 w cx 0) (HY : Cmp k n2 n1 a2 a1 p2 p1 l2 c2 l1 c1 m2 m1 q2 q1 w cy 0) (HZ : Cmp k n2 n3 a2 a3 p2 p3 l2 c2 l3 c3 m2 m3 q2 q3 w cz 0) (HW : Cmp k n1 n3 a1 a3 p1 p3 l1 c1 l3 c3 m1 m3 q1 q3 w cw 0)
    (HS : ∀ W : World, Below w.heap.size w W → Calls Try.prog 6 #[.agg #[.int .u64 n1, .slice a1 l1 c1, .slice p1 m1 q1], .agg #[.int .u64 n2, .slice a2 l2 c2, .slice p2 m2 q2]] W fun e w' => e = .returned (.bool b) ∧ Below W.heap.size W w')
    (hy : cy = -cx) (hb : b = (cx == 0)) (hx : cx = -1 ∨ cx = 0 ∨ cx = 1) (hz : cz = -1 ∨ cz = 0 ∨ cz = 1) (hw : cw = -1 ∨ cw = 0 ∨ cw = 1) (ht : cx ≤ 0 → cz ≤ 0 → cw ≤ 0 ∧ (cw = 0 → cx = 0 ∧ cz = 0)) :
    Calls Try.prog 3 #[.int .i64 k, .agg #[.int .u64 n1, .slice a1 l1 c1, .slice p1 m1 q1], .agg #[.int .u64 n2, .slice a2 l2 c2, .slice p2 m2 q2], .agg #[.int .u64 n3, .slice a3 l3 c3, .slice p3 m3 q3]] w fun e w' => e = .returned (.bool true) ∧ Below w.heap.size w w' := by
  have hc : cx = 1 ∨ (cx = -1 ∧ cz = 1) ∨ (cx = 0 ∧ cz = 1) ∨ (cx = -1 ∧ cz = -1 ∧ cw = -1) ∨ (cx = -1 ∧ cz = 0 ∧ cw = -1) ∨ (cx = 0 ∧ cz = -1 ∧ cw = -1) ∨ (cx = 0 ∧ cz = 0 ∧ cw = -1) ∨ (cx = 0 ∧ cz = 0 ∧ cw = 0) := by omega
  replace HX := hid HX; replace HY := hid HY; replace HZ := hid HZ; replace HW := hid HW; replace HS := hid HS
  subst hy
  subst hb
  clear hx hz hw ht
  rcases hc with rfl | ⟨rfl, rfl⟩ | ⟨rfl, rfl⟩ | ⟨rfl, rfl, rfl⟩ | ⟨rfl, rfl, rfl⟩ | ⟨rfl, rfl, rfl⟩ | ⟨rfl, rfl, rfl⟩ | ⟨rfl, rfl, rfl⟩
  all_goals
    go_enter Try.func3, Try.ntmps3
    go_wp2_with fail
    refine (awake3 _).mono ?_
    rintro e v1 ⟨rfl, hb⟩
    obtain ⟨hc1, hc2, hc3, hbel⟩ := three_cells hb
    have H9 : Hid (Cells3 n1 n2 n3 a1 a2 a3 p1 p2 p3 l1 c1 l2 c2 l3 c3 m1 m2 m3 q1 q2 q3 w.heap.size v1) := hid ⟨hc1, hc2, hc3⟩
    have HB := hid hbel
    clear hb hc1 hc2 hc3 hbel
    obtain ⟨⟨d0, d1, d2⟩, ⟨f0, f1, f2⟩, ⟨g0, g1, g2⟩⟩ := H9.out
    go_wp2_with fail
    refine (HX.out _ HB.out).mono ?_
    rintro e v2 ⟨rfl, hb⟩
    replace H9 := hid (H9.out.kept hb)
    replace HB := hid (below_trans HB.out hb)
    clear hb d0 d1 d2 f0 f1 f2 g0 g1 g2
    obtain ⟨⟨d0, d1, d2⟩, ⟨f0, f1, f2⟩, ⟨g0, g1, g2⟩⟩ := H9.out
    go_wp2_with fail
    refine (HY.out _ HB.out).mono ?_
    rintro e v3 ⟨rfl, hb⟩
    replace H9 := hid (H9.out.kept hb)
    replace HB := hid (below_trans HB.out hb)
    clear hb d0 d1 d2 f0 f1 f2 g0 g1 g2
    obtain ⟨⟨d0, d1, d2⟩, ⟨f0, f1, f2⟩, ⟨g0, g1, g2⟩⟩ := H9.out
    go_wp2_with fail
    refine (HZ.out _ HB.out).mono ?_
    rintro e v4 ⟨rfl, hb⟩
    replace H9 := hid (H9.out.kept hb)
    replace HB := hid (below_trans HB.out hb)
    clear hb d0 d1 d2 f0 f1 f2 g0 g1 g2
    obtain ⟨⟨d0, d1, d2⟩, ⟨f0, f1, f2⟩, ⟨g0, g1, g2⟩⟩ := H9.out
    go_wp2_with fail
    refine (HW.out _ HB.out).mono ?_
    rintro e v5 ⟨rfl, hb⟩
    replace H9 := hid (H9.out.kept hb)
    replace HB := hid (below_trans HB.out hb)
    clear hb d0 d1 d2 f0 f1 f2 g0 g1 g2
    obtain ⟨⟨d0, d1, d2⟩, ⟨f0, f1, f2⟩, ⟨g0, g1, g2⟩⟩ := H9.out
    go_wp2_with fail
    refine (HS.out _ HB.out).mono ?_
    rintro e v6 ⟨rfl, hb⟩
    replace HB := hid (below_trans HB.out hb)
    clear hb
    go_wp2
    go_ret
    exact ⟨rfl, HB.out⟩
end

theorem cmpE_err {k n1 n2 : Int} {xs ys : List Int} {m1 m2 : Nat} (h : (cmpE k n1 n2 xs ys m1 m2).2 ≠ 0) : (cmpE k n1 n2 xs ys m1 m2).1 = 0 ∧ cmpE k n2 n1 ys xs m2 m1 = cmpE k n1 n2 xs ys m1 m2 := by
  unfold cmpE at h ⊢
  by_cases hk : kkey k = false
  · simp [hk]
  · rw [if_neg hk] at h ⊢
    rw [if_neg hk]
    by_cases hv : vfit k n1 xs.length m1 = false ∨ vfit k n2 ys.length m2 = false
    · rw [if_pos hv, if_pos hv.symm]; exact ⟨rfl, rfl⟩
    · rw [if_neg hv] at h; exact absurd rfl h
theorem cmpE_ok {k n1 n2 : Int} {xs ys : List Int} {m1 m2 : Nat} (h : (cmpE k n1 n2 xs ys m1 m2).2 = 0) : kkey k = true ∧ vfit k n1 xs.length m1 = true ∧ vfit k n2 ys.length m2 = true ∧ cmpE k n1 n2 xs ys m1 m2 = (cmpV k n1 n2 xs ys, 0) := by
  unfold cmpE at h ⊢
  cases hk : kkey k with
  | false => rw [hk, if_pos rfl] at h; cases h
  | true =>
    rw [hk, if_neg (by simp)] at h
    cases h1 : vfit k n1 xs.length m1 with
    | false => rw [h1, if_pos (.inl rfl)] at h; cases h
    | true =>
      cases h2 : vfit k n2 ys.length m2 with
      | false => rw [h2, if_pos (.inr rfl)] at h; cases h
      | true => exact ⟨rfl, rfl, rfl, by simp⟩
theorem cmpV_neg (k n1 n2 : Int) (xs ys : List Int) : cmpV k n2 n1 ys xs = - cmpV k n1 n2 xs ys := by
  unfold cmpV
  split
  · exact cmpX_neg xs ys
  · split <;> exact cmpI_neg _ _
theorem cmpV_val (k n1 n2 : Int) (xs ys : List Int) : cmpV k n1 n2 xs ys = -1 ∨ cmpV k n1 n2 xs ys = 0 ∨ cmpV k n1 n2 xs ys = 1 := by
  unfold cmpV
  split
  · exact cmpX_val xs ys
  · split <;> exact cmpI_val _ _
theorem cmpV_trans (k n1 n2 n3 : Int) (xs ys zs : List Int) (h1 : cmpV k n1 n2 xs ys ≤ 0) (h2 : cmpV k n2 n3 ys zs ≤ 0) : cmpV k n1 n3 xs zs ≤ 0 ∧ (cmpV k n1 n3 xs zs = 0 → cmpV k n1 n2 xs ys = 0 ∧ cmpV k n2 n3 ys zs = 0) := by
  unfold cmpV at *
  by_cases hk : k = 14
  · simp only [hk, if_true] at *; exact cmpX_trans xs ys zs h1 h2
  · simp only [hk, if_false] at *
    by_cases hn : kneg k = true
    · simp only [hn, if_true] at *; exact cmpI_trans _ _ _ h1 h2
    · simp only [hn] at *; exact cmpI_trans _ _ _ h1 h2
theorem sgn_inj {a b : Int} (ha : 0 ≤ a ∧ a < 18446744073709551616) (hb : 0 ≤ b ∧ b < 18446744073709551616) : sgn a = sgn b ↔ a = b := by unfold sgn; (repeat' split) <;> omega
theorem vfit_shape {k n : Int} {xs : List Int} {lm : Nat} (hk : kkey k = true) (h : vfit k n xs.length lm = true) : lm = 0 ∧ (k = 14 → n = 0) ∧ (k ≠ 14 → xs = []) := by
  unfold vfit at h
  rw [Bool.and_eq_true] at h
  refine ⟨by simpa using h.1, fun e => ?_, fun e => ?_⟩
  · subst e; simpa using h.2
  · have h15 : k ≠ 15 := by intro e; subst e; cases hk
    rw [if_neg (by omega), Bool.and_eq_true] at h
    have := h.2.1
    simp at this
    exact this
theorem cmpV_same {k n1 n2 : Int} {xs ys : List Int} {m1 m2 : Nat} (hk : kkey k = true) (h1 : vfit k n1 xs.length m1 = true) (h2 : vfit k n2 ys.length m2 = true) (b1 : 0 ≤ n1 ∧ n1 < 18446744073709551616) (b2 : 0 ≤ n2 ∧ n2 < 18446744073709551616) : (cmpV k n1 n2 xs ys = 0) ↔ (n1 = n2 ∧ xs = ys) := by
  obtain ⟨_, f1, g1⟩ := vfit_shape hk h1
  obtain ⟨_, f2, g2⟩ := vfit_shape hk h2
  unfold cmpV
  by_cases h14 : k = 14
  · rw [if_pos h14, cmpX_eq, f1 h14, f2 h14]; simp
  · rw [if_neg h14, g1 h14, g2 h14]
    split
    · rw [cmpI_eq, sgn_inj b1 b2]; simp
    · rw [cmpI_eq]; simp
section
variable (k : Int) (n1 n2 n3 : Int) (a1 a2 a3 p1 p2 p3 : Option Addr) (l1 c1 l2 c2 l3 c3 m1 m2 m3 q1 q2 q3 : Nat) (xs ys zs : List Int) (w : World)
theorem scalarChainW (b1 : 0 ≤ n1 ∧ n1 < 18446744073709551616) (b2 : 0 ≤ n2 ∧ n2 < 18446744073709551616) (b3 : 0 ≤ n3 ∧ n3 < 18446744073709551616) (hr1 : Reads w a1 l1 c1 xs) (hr2 : Reads w a2 l2 c2 ys) (hr3 : Reads w a3 l3 c3 zs) (hm1 : m1 ≤ 9223372036854775807) (hm2 : m2 ≤ 9223372036854775807) (hm3 : m3 ≤ 9223372036854775807) :
    Calls Try.prog 3 #[.int .i64 k, .agg #[.int .u64 n1, .slice a1 l1 c1, .slice p1 m1 q1], .agg #[.int .u64 n2, .slice a2 l2 c2, .slice p2 m2 q2], .agg #[.int .u64 n3, .slice a3 l3 c3, .slice p3 m3 q3]] w fun e w' => e = .returned (.bool true) ∧ Below w.heap.size w w' := by
  have HX : Cmp k n1 n2 a1 a2 p1 p2 l1 c1 l2 c2 m1 m2 q1 q2 w _ _ := fun W hW => compareW k n1 n2 a1 a2 p1 p2 l1 c1 l2 c2 m1 m2 q1 q2 xs ys W b1.1 b1.2 b2.1 b2.2 (reads_kept hr1 hW) (reads_kept hr2 hW) hm1 hm2
  have HY : Cmp k n2 n1 a2 a1 p2 p1 l2 c2 l1 c1 m2 m1 q2 q1 w _ _ := fun W hW => compareW k n2 n1 a2 a1 p2 p1 l2 c2 l1 c1 m2 m1 q2 q1 ys xs W b2.1 b2.2 b1.1 b1.2 (reads_kept hr2 hW) (reads_kept hr1 hW) hm2 hm1
  have HZ : Cmp k n2 n3 a2 a3 p2 p3 l2 c2 l3 c3 m2 m3 q2 q3 w _ _ := fun W hW => compareW k n2 n3 a2 a3 p2 p3 l2 c2 l3 c3 m2 m3 q2 q3 ys zs W b2.1 b2.2 b3.1 b3.2 (reads_kept hr2 hW) (reads_kept hr3 hW) hm2 hm3
  have HW : Cmp k n1 n3 a1 a3 p1 p3 l1 c1 l3 c3 m1 m3 q1 q3 w _ _ := fun W hW => compareW k n1 n3 a1 a3 p1 p3 l1 c1 l3 c3 m1 m3 q1 q3 xs zs W b1.1 b1.2 b3.1 b3.2 (reads_kept hr1 hW) (reads_kept hr3 hW) hm1 hm3
  by_cases he : (cmpE k n1 n2 xs ys m1 m2).2 = 0
  · obtain ⟨hk, h1, h2, e1⟩ := cmpE_ok he
    have e2 : cmpE k n2 n1 ys xs m2 m1 = (cmpV k n2 n1 ys xs, 0) := by
      by_cases h : (cmpE k n2 n1 ys xs m2 m1).2 = 0
      · exact (cmpE_ok h).2.2.2
      · have := (cmpE_err h).2; rw [this] at he; exact absurd he h
    by_cases hz : (cmpE k n2 n3 ys zs m2 m3).2 ≠ 0 ∨ (cmpE k n1 n3 xs zs m1 m3).2 ≠ 0
    · exact chainErr k n1 n2 n3 a1 a2 a3 p1 p2 p3 l1 c1 l2 c2 l3 c3 m1 m2 m3 q1 q2 q3 w _ _ _ _ _ _ _ _ HX HY HZ HW (.inr ⟨he, by rw [e2], hz⟩)
    · have hz1 : (cmpE k n2 n3 ys zs m2 m3).2 = 0 := by omega
      have hz2 : (cmpE k n1 n3 xs zs m1 m3).2 = 0 := by omega
      have e3 := (cmpE_ok hz1).2.2.2
      have e4 := (cmpE_ok hz2).2.2.2
      rw [e1] at HX
      rw [e2] at HY
      rw [e3] at HZ
      rw [e4] at HW
      obtain ⟨rfl, _, _⟩ := vfit_shape hk h1
      obtain ⟨rfl, _, _⟩ := vfit_shape hk h2
      have hs := cmpV_same hk h1 h2 b1 b2
      exact chainOk k n1 n2 n3 a1 a2 a3 p1 p2 p3 l1 c1 l2 c2 l3 c3 0 0 m3 q1 q2 q3 w _ _ _ _ (decide (n1 = n2 ∧ xs = ys)) HX HY HZ HW (fun W hW => sameVR n1 n2 a1 a2 p1 p2 l1 c1 l2 c2 q1 q2 xs ys W (reads_kept hr1 hW) (reads_kept hr2 hW)) (cmpV_neg k n1 n2 xs ys) (by rw [Bool.eq_iff_iff]; simp [hs]) (cmpV_val ..) (cmpV_val ..) (cmpV_val ..) (cmpV_trans k n1 n2 n3 xs ys zs)
  · obtain ⟨hc, e⟩ := cmpE_err he
    exact chainErr k n1 n2 n3 a1 a2 a3 p1 p2 p3 l1 c1 l2 c2 l3 c3 m1 m2 m3 q1 q2 q3 w _ _ _ _ _ _ _ _ HX HY HZ HW (.inl ⟨he, by rw [e], hc, by rw [e]; exact hc⟩)
end
end Go.Proofs.Ytgcimeldofbgkab
