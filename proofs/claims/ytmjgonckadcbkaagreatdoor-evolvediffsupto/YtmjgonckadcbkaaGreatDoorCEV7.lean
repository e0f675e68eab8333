/-
  Ranges that touch made one.
  Kinds that are wider, labels that may change.
  A field with the names behind its indices.
-/
import Derived.Test.YtmjgonckadcbkaaGreatDoorCTY
import Derived.Laws.OwnMore
namespace Go.Proofs.YtmjgonckadcbkaaGreatDoor
open Go.RowKit
set_option maxRecDepth 1000000
set_option linter.unusedVariables false
set_option linter.unusedSimpArgs false
set_option maxHeartbeats 2000000
/-- A range more: at the last one, where they touch. -/
def stJ (out : List RG) (r : RG) : List RG := match out.getLast? with
  | some x => if x.hi + 1 = r.lo then out.dropLast ++ [⟨x.lo, r.hi⟩] else out ++ [r]
  | none => [r]
def jnL (l : List RG) : List RG := l.foldl stJ []
theorem jn_snoc (l : List RG) (j : Nat) (hj : j < l.length) : jnL (l.take (j + 1)) = stJ (jnL (l.take j)) l[j] := by
  unfold jnL
  rw [List.take_succ_eq_append_getElem hj, List.foldl_append]
  rfl
/-- Numbers that ranges may have. -/
def RgOk (r : RG) : Prop := -4294967296 ≤ r.lo ∧ r.lo ≤ 4294967296 ∧ -4294967296 ≤ r.hi ∧ r.hi ≤ 4294967296
theorem st_ok {out : List RG} {r : RG} (h : ∀ x ∈ out, RgOk x) (hr : RgOk r) : ∀ x ∈ stJ out r, RgOk x := by
  unfold stJ
  split
  · rename_i x hx
    have hx' := h x (List.mem_of_getLast? hx)
    split
    · intro y hy
      rw [List.mem_append] at hy
      rcases hy with hy | hy
      · exact h y (List.dropLast_subset out hy)
      · simp only [List.mem_singleton] at hy; subst hy; exact ⟨hx'.1, hx'.2.1, hr.2.2.1, hr.2.2.2⟩
    · intro y hy
      rw [List.mem_append] at hy
      rcases hy with hy | hy
      · exact h y hy
      · simp only [List.mem_singleton] at hy; subst hy; exact hr
  · intro y hy
    simp only [List.mem_singleton] at hy; subst hy; exact hr
theorem st_len (out : List RG) (r : RG) : (stJ out r).length ≤ out.length + 1 := by
  unfold stJ
  split
  · split
    · simp
    · simp
  · simp
theorem jn_take {l : List RG} (h : ∀ x ∈ l, RgOk x) : ∀ j, j ≤ l.length → (∀ x ∈ jnL (l.take j), RgOk x) ∧ (jnL (l.take j)).length ≤ j := by
  intro j
  induction j with
  | zero => intro _; simp [jnL]
  | succ j ih =>
    intro hj
    obtain ⟨h1, h2⟩ := ih (by omega)
    rw [jn_snoc l j (by omega)]
    exact ⟨st_ok h1 (h _ (List.getElem_mem _)), Nat.le_trans (st_len _ _) (by omega)⟩
theorem Tryz.infoRG : (Tryz.prog.info? 88).map (fun i => (i.zero, i.size, i.bytes)) = some (some (.agg #[.int .i64 0, .int .i64 0]), 2, 16) := by kernel_rfl
theorem appendRG (base : Nat) (v : Value) (l : List RG) (y : RG) (w : World) (h : w.ownsRow base 88 2 v l.length (l.flatMap cRG)) (hb : base ≤ w.heap.size) (hn : l.length ≤ 4000000) :
    ∃ a c w', Hid ((Builtin.append_ #[48, 48] 48 #[v, .slice (some ⟨w.heap.size, 0, none⟩) 1 1]).run Tryz.prog (w.alloc (.cells #[.int .i64 y.lo, .int .i64 y.hi] 88)) = .ok (.slice a (l.length + 1) c) w') ∧ Hid (w'.ownsRow base 88 2 (.slice a (l.length + 1) c) (l ++ [y]).length ((l ++ [y]).flatMap cRG)) ∧ Hid (Grow w w' v (.slice a (l.length + 1) c)) := by
  obtain ⟨v', w', h1, h2, h3⟩ := append_st 88 48 2 16 (.agg #[.int .i64 0, .int .i64 0]) Tryz.underlying48 Tryz.infoRG rfl (by decide) (by decide) base v l.length (l.flatMap cRG) w #[.int .i64 y.lo, .int .i64 y.hi] rfl (fun u hu => by simp at hu; rcases hu with rfl | rfl <;> rfl) h hb hn
  obtain ⟨a, c, rfl⟩ := own_shape h2
  exact ⟨a, c, w', hid h1, hid (by rw [List.flatMap_append, List.length_append]; exact h2), hid h3⟩
/-- The last range's end, written over. -/
theorem own_last {w : World} {base g cap m : Nat} {init : List RG} {x : RG} (hm : m = init.length) (h : w.ownsRow base 88 2 (.slice (some ⟨g, 0, none⟩) (m + 1) cap) (m + 1) ((init ++ [x]).flatMap cRG)) (y : Int) : (w.setCell ⟨g, m * 2 + 1, none⟩ (.int .i64 y)).ownsRow base 88 2 (.slice (some ⟨g, 0, none⟩) (m + 1) cap) (m + 1) ((init ++ [(⟨x.lo, y⟩ : RG)]).flatMap cRG) := by
  subst hm
  have h1 := (h.stored (init.length * 2 + 1) (.int .i64 y)).1
  have hl : (init.flatMap cRG).length = init.length * 2 := flatM_len (g := cRG) (k := 2) (fun _ => rfl) init
  have e : ((init ++ [x]).flatMap cRG).set (init.length * 2 + 1) (.int .i64 y) = (init ++ [(⟨x.lo, y⟩ : RG)]).flatMap cRG := by
    rw [List.flatMap_append, List.flatMap_append, List.set_append_right _ _ (by omega), hl]
    congr 1
    rw [show init.length * 2 + 1 - init.length * 2 = 1 by omega]
    rfl
  rw [e] at h1
  exact h1
theorem own_lastc {w : World} {base m cap : Nat} {va : Option Addr} {init : List RG} {x : RG} (hm : init.length = m) (h : w.ownsRow base 88 2 (.slice va (m + 1) cap) (m + 1) ((init ++ [x]).flatMap cRG)) : ∃ g, va = some ⟨g, 0, none⟩ ∧ base ≤ g ∧ g < w.heap.size ∧ w.cell? ⟨g, m * 2, none⟩ = some (.int .i64 x.lo) ∧ w.cell? ⟨g, m * 2 + 1, none⟩ = some (.int .i64 x.hi) ∧ w.frozen? ⟨g, m * 2 + 1, none⟩ = false := by
  rcases h.2 with ⟨h', h0⟩ | ⟨g, cap', cur, h', hbg, hg, _⟩
  · omega
  · simp only [Value.slice.injEq, true_and] at h'
    obtain ⟨rfl, rfl⟩ := h'
    obtain ⟨b, o, e, hc⟩ := rowAt (g := cRG) (l := init ++ [x]) (K := 2) (fun _ => rfl) (by have := own_row (Z := AnyZ) h (fun _ _ => trivial); rwa [show (init ++ [x]).length = m + 1 by simp [hm]]) (i := m) (x := x) (by simp [← hm])
    simp only [Option.some.injEq, Addr.mk.injEq, and_true] at e
    obtain ⟨rfl, rfl⟩ := e
    have c0 := hc 0 _ rfl
    have c1 := hc 1 _ rfl
    simp only [Nat.zero_add, Nat.add_zero] at c0 c1
    exact ⟨g, rfl, hbg, World.block_lt_of_cell? _ _ c0, c0, c1, h.frozenAt _⟩
theorem last_cases (out : List RG) : out = [] ∨ ∃ init x, out = init ++ [x] := by
  rcases List.eq_nil_or_concat out with h | ⟨i, x, h⟩
  · exact .inl h
  · exact .inr ⟨i, x, by rw [h, List.concat_eq_append]⟩
theorem st_nil (r : RG) : stJ [] r = [r] := rfl
theorem st_yes {i : List RG} {x r : RG} (h : x.hi + 1 = r.lo) : stJ (i ++ [x]) r = i ++ [⟨x.lo, r.hi⟩] := by
  unfold stJ; simp [h]
theorem st_no {i : List RG} {x r : RG} (h : ¬ x.hi + 1 = r.lo) : stJ (i ++ [x]) r = (i ++ [x]) ++ [r] := by
  unfold stJ; simp [h]
theorem wrH {a : Int} (h : -4294967296 ≤ a ∧ a ≤ 4294967296) : IntKind.i64.wrap (a + 1) = a + 1 := by
  simp [IntKind.wrap, IntKind.signed, IntKind.bits]; omega
theorem joinedT (w : World) (l : List RG) (a : Option Addr) (c : Nat) (h : RowS w AnyZ 2 (.slice a l.length c) l.length (l.flatMap cRG)) (hk : ∀ x ∈ l, RgOk x) (hl : l.length ≤ 4000000) : Calls Tryz.prog 59 #[.slice a l.length c] w fun e w' => ∃ va vc, e = .returned (.slice va (jnL l).length vc) ∧ w'.ownsRow w.heap.size 88 2 (.slice va (jnL l).length vc) (jnL l).length ((jnL l).flatMap cRG) ∧ Below w.heap.size w w' := by
  have m1 : (l.length : Int) ≤ 9223372036854775807 := by omega
  have HY := hid h
  have HJ := hid (jn_take hk)
  have HK := hid hk
  clear h hk
  go_enter Tryz.func59, Tryz.ntmps59
  go_wp2
  go_loopw [3, 9] (fun v r wr => ∃ (j : Nat) (va : Option Addr) (vn vc : Nat), v = .slice va vn vc ∧ r = .int .i64 j ∧ j ≤ l.length ∧ Hid (vn = (jnL (l.take j)).length) ∧ Hid (wr.ownsRow w.heap.size 88 2 (.slice va vn vc) (jnL (l.take j)).length ((jnL (l.take j)).flatMap cRG)) ∧ Hid (Below w.heap.size w wr)) (fun _ r wr => l.length - numAt wr r)
  case atStart => exact ⟨0, none, 0, 0, rfl, rfl, by omega, hid rfl, hid (World.ownsRow_nil _ _ _ _), hid (Below.refl _ _)⟩
  case round =>
    obtain ⟨j, va, vn, vc, rfl, rfl, hj, HN, HV, hb⟩ := hrel
    by_cases hlt : j < l.length
    · have h2 : (j : Int) < (l.length : Int) := by omega
      obtain ⟨b1, o1, rfl, hc⟩ := rowAt (g := cRG) (fun _ => rfl) (HY.out.kept hb.out) (i := j) (x := l[j]) (by simp [hlt])
      have c0 := hc 0 _ rfl
      have c1 := hc 1 _ rfl
      clear hc
      simp only [Nat.add_zero] at c0
      have hpb : b1 < wr.heap.size := World.block_lt_of_cell? _ _ c0
      have HS := hid (jn_snoc l j hlt)
      have HJj := hid (HJ.out j hj)
      clear HJ
      have HRK := hid (HK.out _ (List.getElem_mem hlt))
      generalize l[j] = r at *
      obtain ⟨lo, hi⟩ := r
      dsimp only at c0 c1
      have HL : Hid ((jnL (l.take j)).length ≤ 4000000) := hid (Nat.le_trans HJj.out.2 (by omega))
      generalize jnL (l.take j) = out at *
      have HAP : Hid (∀ nq : Nat, ∃ a5 c5 w5, Hid ((Builtin.append_ #[48, 48] 48 #[.slice va vn vc, .slice (some ⟨wr.heap.size + 1, 0, none⟩) 1 1]).run Tryz.prog (((wr.alloc (.cells #[.int .i64 lo, .int .i64 hi] 88)).drewN nq).alloc (.cells #[.int .i64 lo, .int .i64 hi] 88)) = .ok (.slice a5 (vn + 1) c5) w5) ∧ Hid (w5.ownsRow w.heap.size 88 2 (.slice a5 (vn + 1) c5) (out ++ [(⟨lo, hi⟩ : RG)]).length ((out ++ [(⟨lo, hi⟩ : RG)]).flatMap cRG)) ∧ Hid (Below w.heap.size w w5)) := hid fun nq => by
        have hB : Below wr.heap.size wr ((wr.alloc (.cells #[.int .i64 lo, .int .i64 hi] 88)).drewN nq) := by exact blBy
        have hsz : ((wr.alloc (.cells #[.int .i64 lo, .int .i64 hi] 88)).drewN nq).heap.size = wr.heap.size + 1 := by show (wr.alloc _).heap.size = _; simp
        have h8 := hb.out.size
        obtain ⟨a5, c5, w5, h1, h2, h3⟩ := appendRG w.heap.size (.slice va vn vc) out ⟨lo, hi⟩ ((wr.alloc (.cells #[.int .i64 lo, .int .i64 hi] 88)).drewN nq) (own_kept HV.out hB) (by omega) HL.out
        rw [← HN.out, hsz] at h1
        rw [← HN.out] at h2 h3
        exact ⟨a5, c5, w5, h1, h2, hid ((below_trans hb.out hB).trans (Grow.below h3.out (by omega) (fun k hk => (own_type HV.out hk).1)))⟩
      rcases last_cases out with rfl | ⟨init, x, rfl⟩
      · replace HS := hid (HS.out.trans (st_nil _))
        have eN : vn = 0 := HN.out
        subst eN
        have r1 : ((0 : Int) ≤ -1) = False := eq_false (by omega)
        go_wp2
        go_quiet (fail)
        obtain ⟨a5, c5, w5, HRUN, HO5, HB5⟩ := HAP.out nq
        go_wp2_with (first | (at_builtin; refine wpList_append_ran rfl _ _ 48 48 rfl rfl _ _ (.slice a5 (0 + 1) c5) w5 rfl rfl HRUN.out ?_))
        exact ⟨⟨j + 1, a5, 0 + 1, c5, rfl, by simp, by omega, hid (by rw [HS.out]; rfl), hid (by rw [HS.out]; exact HO5.out), HB5⟩, by simp [numAt]; omega⟩
      · have eN : vn = init.length + 1 := by rw [HN.out]; simp
        have hx := HJj.out.1 x (by simp)
        have HYS := hid (st_yes (i := init) (x := x) (r := ⟨lo, hi⟩))
        have HNS := hid (st_no (i := init) (x := x) (r := ⟨lo, hi⟩))
        obtain ⟨xl, xh⟩ := x
        have wrx := wrH hx.2.2
        have HM : Hid (init.length = init.length) := hid rfl
        generalize hm : init.length = m at *
        replace hm := hid hm
        subst eN
        replace HV : Hid (wr.ownsRow w.heap.size 88 2 (.slice va (m + 1) vc) (m + 1) ((init ++ [(⟨xl, xh⟩ : RG)]).flatMap cRG)) := hid (by have := HV.out; rwa [show (init ++ [(⟨xl, xh⟩ : RG)]).length = m + 1 by simp [hm.out]] at this)
        obtain ⟨g, rfl, hbg, hgl, d0, d1, df⟩ := own_lastc hm.out HV.out
        dsimp only at d0 d1 wrx
        have r1 : ((0 : Int) ≤ (m : Int)) = True := eq_true (by omega)
        have r2 : (m : Int) < (m : Int) + 1 := by omega
        have mb : (m : Int) ≤ 4000000 := by have := HL.out; simp [hm.out] at this; omega
        have g1 : g ≠ wr.heap.size := by omega
        have g2 : g < wr.heap.size + 1 := by omega
        by_cases ht : xh + 1 = lo
        · replace HS := hid (HS.out.trans (HYS.out ht))
          have k1 : (xh + 1 == lo) = true := by simpa using ht
          replace ht := hid ht
          go_wp2
          go_quiet (fail)
          go_wp2
          have HOB : Hid (Below wr.heap.size wr ((wr.alloc (.cells #[.int .i64 lo, .int .i64 hi] 88)).drewN nq)) := hid (by exact blBy)
          have HO5 := hid (own_last (m := m) hm.out.symm (own_kept HV.out HOB.out) hi)
          exact ⟨⟨j + 1, some ⟨g, 0, none⟩, m + 1, vc, rfl, by simp, by omega, hid (by rw [HS.out]; simp [hm.out]), hid (by rw [HS.out, show (init ++ [(⟨xl, hi⟩ : RG)]).length = m + 1 by simp [hm.out]]; exact HO5.out), hid (blA (below_trans hb.out HOB.out))⟩, by simp [numAt]; omega⟩
        · replace HS := hid (HS.out.trans (HNS.out ht))
          have k1 : (xh + 1 == lo) = false := by simpa using ht
          replace ht := hid ht
          go_wp2
          go_quiet (fail)
          obtain ⟨a5, c5, w5, HRUN, HO5, HB5⟩ := HAP.out nq
          go_wp2_with (first | (at_builtin; refine wpList_append_ran rfl _ _ 48 48 rfl rfl _ _ (.slice a5 (m + 1 + 1) c5) w5 rfl rfl HRUN.out ?_))
          exact ⟨⟨j + 1, a5, m + 1 + 1, c5, rfl, by simp, by omega, hid (by rw [HS.out]; simp [hm.out]), hid (by rw [HS.out]; exact HO5.out), HB5⟩, by simp [numAt]; omega⟩
    · have h2 : ¬ (j : Int) < (l.length : Int) := by omega
      have HE : Hid (l.take j = l) := hid (List.take_of_length_le (by omega))
      go_wp2
      go_ret
      rw [HE.out] at HN HV
      rw [HN.out] at HV ⊢
      exact ⟨va, vc, rfl, HV.out, hb.out⟩
/-- Is the second kind wider than the first? -/
def widB (a b : Int) : Bool := (a == 1 && (b == 2 || (b == 3 || (b == 4 || b == 5)))) || ((a == 2 && b == 3) || ((a == 4 && b == 5) || ((a == 6 && b == 7) || ((a == 14 && b == 15) || (a == 16 && (b == 2 || b == 3))))))
theorem widA (a : Int) : a = 1 ∨ a = 2 ∨ a = 4 ∨ a = 6 ∨ a = 14 ∨ a = 16 ∨ ((a == 1) = false ∧ (a == 2) = false ∧ (a == 4) = false ∧ (a == 6) = false ∧ (a == 14) = false ∧ (a == 16) = false) := by
  simp only [beq_eq_false_iff_ne, ne_eq]; omega
theorem widC (b : Int) : b = 2 ∨ b = 3 ∨ b = 4 ∨ b = 5 ∨ b = 7 ∨ b = 15 ∨ ((b == 2) = false ∧ (b == 3) = false ∧ (b == 4) = false ∧ (b == 5) = false ∧ (b == 7) = false ∧ (b == 15) = false) := by
  simp only [beq_eq_false_iff_ne, ne_eq]; omega
theorem widerT (a b : Int) (w : World) : Calls Tryz.prog 12 #[.int .i64 a, .int .i64 b] w fun e w' => e = .returned (.bool (widB a b)) ∧ w = w' := by
  rcases widA a with rfl | rfl | rfl | rfl | rfl | rfl | ⟨a1, a2, a3, a4, a5, a6⟩
  iterate 6 (next => rcases widC b with rfl | rfl | rfl | rfl | rfl | rfl | ⟨b1, b2, b3, b4, b5, b6⟩ <;> (go_enter Tryz.func12, Tryz.ntmps12; go_wp2; go_ret; first | exact ⟨rfl, rfl⟩ | exact ⟨ret_bool (by unfold widB; simp [b1, b2, b3, b4, b5, b6]), rfl⟩))
  have HX : Hid (widB a b = false) := hid (by unfold widB; simp [a1, a2, a3, a4, a5, a6])
  go_enter Tryz.func12, Tryz.ntmps12
  go_wp2
  go_ret
  exact ⟨ret_bool HX.out.symm, rfl⟩
theorem widerR (a b : Int) (w : World) : Calls Tryz.prog 13 #[.int .i64 a, .int .i64 b] w fun e w' => e = .returned (.bool (widB a b)) ∧ w = w' := by
  rcases widA a with rfl | rfl | rfl | rfl | rfl | rfl | ⟨a1, a2, a3, a4, a5, a6⟩
  iterate 6 (next => rcases widC b with rfl | rfl | rfl | rfl | rfl | rfl | ⟨b1, b2, b3, b4, b5, b6⟩ <;> (go_enter Tryz.func13, Tryz.ntmps13; go_wp2; go_ret; first | exact ⟨rfl, rfl⟩ | exact ⟨ret_bool (by unfold widB; simp [b1, b2, b3, b4, b5, b6]), rfl⟩))
  have HX : Hid (widB a b = false) := hid (by unfold widB; simp [a1, a2, a3, a4, a5, a6])
  go_enter Tryz.func13, Tryz.ntmps13
  go_wp2
  go_ret
  exact ⟨ret_bool HX.out.symm, rfl⟩
def widI (b : Bool) : Int := if b = true then 3 else 4
theorem wideningT (b : Bool) (w : World) : Calls Tryz.prog 61 #[.bool b] w fun e w' => e = .returned (.int .i64 (widI b)) ∧ w = w' := by
  cases b <;> (go_enter Tryz.func61, Tryz.ntmps61; go_wp2; go_ret; exact ⟨rfl, rfl⟩)
/-- Are two labels these two, either way? -/
def betB (x y a b : Int) : Bool := (x == a && y == b) || (x == b && y == a)
theorem betweenT (w : World) (p q : Nat) (f g : FT) (a b : Int) (hp : Blk w p 79 (cFT f).toArray) (hq : Blk w q 79 (cFT g).toArray) : Calls Tryz.prog 109 #[.int .i64 a, .int .i64 b, .pointer (some ⟨p, 0, none⟩), .pointer (some ⟨q, 0, none⟩)] w fun e w' => e = .returned (.bool (betB f.lab g.lab a b)) ∧ w = w' := by
  have x1 := hp.cellF
  have z1 := hp.lt
  have x2 := hq.cellF
  have z2 := hq.lt
  clear hp hq
  obtain ⟨n1, f1, f2, f3, x, f5, f6⟩ := f
  obtain ⟨n2, g1, g2, g3, y, g5, g6⟩ := g
  simp only [cFT] at x1 x2
  dsimp only
  have HX : Hid (betB x y a b = ((x == a && y == b) || (x == b && y == a))) := hid rfl
  cases h1 : (x == a) <;> cases h2 : (y == b) <;> cases h3 : (x == b) <;> cases h4 : (y == a) <;> (rw [h1, h2, h3, h4] at HX; go_enter Tryz.func109, Tryz.ntmps109; go_wp2; go_ret; exact ⟨ret_bool HX.out.symm, rfl⟩)
/-- May a field's label change so? -/
def relB (f g : FT) : Bool := if betB f.lab g.lab 0 1 = true then (f.kind != 17) && (g.kind != 17) else betB f.lab g.lab 2 3
theorem relabelT (w : World) (f g : FT) : Calls Tryz.prog 89 #[aFT f, aFT g] w fun e w' => e = .returned (.bool (relB f g)) ∧ Below w.heap.size w w' := by
  have HC : Hid (∀ W p q a b, Blk W p 79 (cFT f).toArray → Blk W q 79 (cFT g).toArray → Calls Tryz.prog 109 #[.int .i64 a, .int .i64 b, .pointer (some ⟨p, 0, none⟩), .pointer (some ⟨q, 0, none⟩)] W fun e w' => e = .returned (.bool (betB f.lab g.lab a b)) ∧ W = w') := hid fun W p q a b h1 h2 => betweenT W p q f g a b h1 h2
  have HX : Hid (relB f g = if betB f.lab g.lab 0 1 = true then (f.kind != 17) && (g.kind != 17) else betB f.lab g.lab 2 3) := hid rfl
  obtain ⟨n1, f1, x, f3, f4, f5, f6⟩ := f
  obtain ⟨n2, g1, y, g3, g4, g5, g6⟩ := g
  unfold aFT
  dsimp only [cFT] at HC HX ⊢
  cases h0 : betB f4 g4 0 1 with
  | true =>
    have HC0 := HC
    cases h1 : (x != 17) <;> cases h2 : (y != 17) <;> (rw [h0, if_pos rfl, h1, h2] at HX; go_enter Tryz.func89, Tryz.ntmps89; go_wp2_with (first | (go_at_call 109; refine (HC.out _ _ _ _ _ ((Blk.new _ _ _).kept (below_alloc _)) (Blk.newAt (by simp))).mono ?_; rw [h0]; rintro e w1 ⟨rfl, rfl⟩)); go_ret; exact ⟨ret_bool HX.out.symm, by exact blBy⟩)
  | false =>
    rw [h0, if_neg (by decide)] at HX
    go_enter Tryz.func89, Tryz.ntmps89
    go_wp2_with fail
    refine (HC.out _ _ _ _ _ ((Blk.new _ _ _).kept (below_alloc _)) (Blk.newAt (by simp))).mono ?_
    rw [h0]
    rintro e w1 ⟨rfl, rfl⟩
    go_wp2_with fail
    refine (HC.out _ _ _ _ _ ((Blk.new _ _ _).kept (below_alloc _)) (Blk.newAt (by simp))).mono ?_
    rintro e w1 ⟨rfl, rfl⟩
    go_wp2
    go_ret
    exact ⟨ret_bool HX.out.symm, by exact blBy⟩
/-- The name behind a field's Ref, and behind its Oneof. -/
def refN (l : List TV) (f : FT) : List Int := if f.kind = 16 ∨ f.kind = 17 then (match l[f.ref.toNat]? with | some x => x.t.name | none => []) else []
def oneN (t : TT) (f : FT) : List Int := if f.lab = 4 then (t.os[f.one.toNat]?).getD [] else []
def aNM (f : FT) (r o : List Int) : Value := .agg #[.string (strOfNums f.name), .int .i64 f.num, .int .i64 f.kind, .int .i64 f.ref, .int .i64 f.lab, .int .i64 f.one, .int .i64 f.key, .string (strOfNums r), .string (strOfNums o)]
theorem fieldT (w : World) (l : List TV) (ta : Option Addr) (tc : Nat) (h : RowS w AnyZ 6 (.slice ta l.length tc) l.length (l.flatMap cTV)) (t : TT) (fa oa sa ra : Option Addr) (fn fc oc sn sc rn rc : Nat) (ho : RowS w AnyZ 1 (.slice oa t.os.length oc) t.os.length (t.os.flatMap cN)) (f : FT)
    (hr : f.kind = 16 ∨ f.kind = 17 → ∃ k : Nat, f.ref = k ∧ k < l.length) (hone : f.lab = 4 → ∃ k : Nat, f.one = k ∧ k < t.os.length) :
    Calls Tryz.prog 58 #[.agg #[.string (strOfNums t.name), .bool t.enum, .slice fa fn fc, .slice oa t.os.length oc, .slice sa sn sc, .slice ra rn rc, .slice ta l.length tc], aFT f] w fun e w' => e = .returned (aNM f (refN l f) (oneN t f)) ∧ Below w.heap.size w w' := by
  obtain ⟨_, _, e, hn⟩ := rowS_sl h
  clear e
  obtain ⟨_, _, e, hn2⟩ := rowS_sl ho
  clear e
  have h63 : (l.length : Int) ≤ 9223372036854775807 := by omega
  have h64 : (t.os.length : Int) ≤ 9223372036854775807 := by omega
  obtain ⟨nm, num, kind, ref, lab, one, key⟩ := f
  dsimp only at hr hone
  have key1 : ((kind == 16) = true ∧ (∃ (k : Nat) (hk : k < l.length), ref = k ∧ refN l ⟨nm, num, kind, ref, lab, one, key⟩ = l[k].t.name)) ∨ ((kind == 16) = false ∧ (kind == 17) = true ∧ (∃ (k : Nat) (hk : k < l.length), ref = k ∧ refN l ⟨nm, num, kind, ref, lab, one, key⟩ = l[k].t.name)) ∨ ((kind == 16) = false ∧ (kind == 17) = false ∧ refN l ⟨nm, num, kind, ref, lab, one, key⟩ = []) := by
    have hx : kind = 16 ∨ kind = 17 → (∃ (k : Nat) (hk : k < l.length), ref = k ∧ refN l ⟨nm, num, kind, ref, lab, one, key⟩ = l[k].t.name) := fun hh => by
      obtain ⟨k, e, hk⟩ := hr hh
      refine ⟨k, hk, e, ?_⟩
      unfold refN
      rw [if_pos hh, e]
      simp [hk]
    by_cases h1 : kind = 16
    · exact .inl ⟨by simpa using h1, hx (.inl h1)⟩
    · by_cases h2 : kind = 17
      · exact .inr (.inl ⟨by simpa using h1, by simpa using h2, hx (.inr h2)⟩)
      · exact .inr (.inr ⟨by simpa using h1, by simpa using h2, by unfold refN; rw [if_neg (by simp; omega)]⟩)
  have key2 : ((lab == 4) = true ∧ (∃ (k : Nat) (hk : k < t.os.length), one = k ∧ oneN t ⟨nm, num, kind, ref, lab, one, key⟩ = t.os[k])) ∨ ((lab == 4) = false ∧ oneN t ⟨nm, num, kind, ref, lab, one, key⟩ = []) := by
    by_cases h1 : lab = 4
    · obtain ⟨k, e, hk⟩ := hone h1
      refine .inl ⟨by simpa using h1, k, hk, e, ?_⟩
      unfold oneN
      rw [if_pos h1, e]
      simp [hk]
    · exact .inr ⟨by simpa using h1, by unfold oneN; rw [if_neg h1]⟩
  clear hr hone
  have es : strOfNums [] = ⟨#[]⟩ := rfl
  unfold aNM aFT
  dsimp only
  rcases key1 with ⟨k1, k, hk, rfl, er⟩ | ⟨k1, k2, k, hk, rfl, er⟩ | ⟨k1, k2, er⟩
  · rw [er]
    have r5 : (k : Int) < (l.length : Int) := by omega
    obtain ⟨b, o, rfl, hbl, c0, -⟩ := row6 h hk
    have fbn0 : b ≠ w.heap.size := by omega
    have fbn1 : b ≠ w.heap.size + 1 := by omega
    have fbl1 : b < w.heap.size + 1 := by omega
    have fbn2 : b ≠ w.heap.size + 1 + 1 := by omega
    have fbl2 : b < w.heap.size + 1 + 1 := by omega
    have fbn3 : b ≠ w.heap.size + 1 + 1 + 1 := by omega
    have fbl3 : b < w.heap.size + 1 + 1 + 1 := by omega
    clear h er
    generalize l[k].t.name = rn0 at *
    rcases key2 with ⟨k3, j, hj, rfl, eo⟩ | ⟨k3, eo⟩
    · rw [eo]
      have r6 : (j : Int) < (t.os.length : Int) := by omega
      obtain ⟨b2, o2, rfl, hc⟩ := rowAt (g := cN) (fun _ => rfl) ho (i := j) (x := t.os[j]) (by simp [hj])
      have d0 : w.cell? ⟨b2, o2 + j * 1, none⟩ = some (.string (strOfNums t.os[j])) := hc 0 _ rfl
      have hbl2 : b2 < w.heap.size := World.block_lt_of_cell? _ _ d0
      rw [Nat.mul_one] at d0
      have fcn0 : b2 ≠ w.heap.size := by omega
      have fcn1 : b2 ≠ w.heap.size + 1 := by omega
      have fcl1 : b2 < w.heap.size + 1 := by omega
      have fcn2 : b2 ≠ w.heap.size + 1 + 1 := by omega
      have fcl2 : b2 < w.heap.size + 1 + 1 := by omega
      have fcn3 : b2 ≠ w.heap.size + 1 + 1 + 1 := by omega
      have fcl3 : b2 < w.heap.size + 1 + 1 + 1 := by omega
      clear ho hc eo
      generalize t.os[j] = on0 at *
      go_enter Tryz.func58, Tryz.ntmps58
      go_wp2
      exact bodyPost_ret (v := .agg #[.string (strOfNums nm), .int .i64 num, .int .i64 kind, .int .i64 k, .int .i64 lab, .int .i64 j, .int .i64 key, .string (strOfNums rn0), .string (strOfNums on0)]) (by simp [results, Tryz.results58, go_sem]) rfl ⟨rfl, by exact blBy⟩
    · rw [eo, es]
      clear ho eo
      go_enter Tryz.func58, Tryz.ntmps58
      go_wp2
      exact bodyPost_ret (v := .agg #[.string (strOfNums nm), .int .i64 num, .int .i64 kind, .int .i64 k, .int .i64 lab, .int .i64 one, .int .i64 key, .string (strOfNums rn0), .string ⟨#[]⟩]) (by simp [results, Tryz.results58, go_sem]) rfl ⟨rfl, by exact blBy⟩
  · rw [er]
    have r5 : (k : Int) < (l.length : Int) := by omega
    obtain ⟨b, o, rfl, hbl, c0, -⟩ := row6 h hk
    have fbn0 : b ≠ w.heap.size := by omega
    have fbn1 : b ≠ w.heap.size + 1 := by omega
    have fbl1 : b < w.heap.size + 1 := by omega
    have fbn2 : b ≠ w.heap.size + 1 + 1 := by omega
    have fbl2 : b < w.heap.size + 1 + 1 := by omega
    have fbn3 : b ≠ w.heap.size + 1 + 1 + 1 := by omega
    have fbl3 : b < w.heap.size + 1 + 1 + 1 := by omega
    clear h er
    generalize l[k].t.name = rn0 at *
    rcases key2 with ⟨k3, j, hj, rfl, eo⟩ | ⟨k3, eo⟩
    · rw [eo]
      have r6 : (j : Int) < (t.os.length : Int) := by omega
      obtain ⟨b2, o2, rfl, hc⟩ := rowAt (g := cN) (fun _ => rfl) ho (i := j) (x := t.os[j]) (by simp [hj])
      have d0 : w.cell? ⟨b2, o2 + j * 1, none⟩ = some (.string (strOfNums t.os[j])) := hc 0 _ rfl
      have hbl2 : b2 < w.heap.size := World.block_lt_of_cell? _ _ d0
      rw [Nat.mul_one] at d0
      have fcn0 : b2 ≠ w.heap.size := by omega
      have fcn1 : b2 ≠ w.heap.size + 1 := by omega
      have fcl1 : b2 < w.heap.size + 1 := by omega
      have fcn2 : b2 ≠ w.heap.size + 1 + 1 := by omega
      have fcl2 : b2 < w.heap.size + 1 + 1 := by omega
      have fcn3 : b2 ≠ w.heap.size + 1 + 1 + 1 := by omega
      have fcl3 : b2 < w.heap.size + 1 + 1 + 1 := by omega
      clear ho hc eo
      generalize t.os[j] = on0 at *
      go_enter Tryz.func58, Tryz.ntmps58
      go_wp2
      exact bodyPost_ret (v := .agg #[.string (strOfNums nm), .int .i64 num, .int .i64 kind, .int .i64 k, .int .i64 lab, .int .i64 j, .int .i64 key, .string (strOfNums rn0), .string (strOfNums on0)]) (by simp [results, Tryz.results58, go_sem]) rfl ⟨rfl, by exact blBy⟩
    · rw [eo, es]
      clear ho eo
      go_enter Tryz.func58, Tryz.ntmps58
      go_wp2
      exact bodyPost_ret (v := .agg #[.string (strOfNums nm), .int .i64 num, .int .i64 kind, .int .i64 k, .int .i64 lab, .int .i64 one, .int .i64 key, .string (strOfNums rn0), .string ⟨#[]⟩]) (by simp [results, Tryz.results58, go_sem]) rfl ⟨rfl, by exact blBy⟩
  · rw [er, es]
    clear h er
    rcases key2 with ⟨k3, j, hj, rfl, eo⟩ | ⟨k3, eo⟩
    · rw [eo]
      have r6 : (j : Int) < (t.os.length : Int) := by omega
      obtain ⟨b2, o2, rfl, hc⟩ := rowAt (g := cN) (fun _ => rfl) ho (i := j) (x := t.os[j]) (by simp [hj])
      have d0 : w.cell? ⟨b2, o2 + j * 1, none⟩ = some (.string (strOfNums t.os[j])) := hc 0 _ rfl
      have hbl2 : b2 < w.heap.size := World.block_lt_of_cell? _ _ d0
      rw [Nat.mul_one] at d0
      have fcn0 : b2 ≠ w.heap.size := by omega
      have fcn1 : b2 ≠ w.heap.size + 1 := by omega
      have fcl1 : b2 < w.heap.size + 1 := by omega
      have fcn2 : b2 ≠ w.heap.size + 1 + 1 := by omega
      have fcl2 : b2 < w.heap.size + 1 + 1 := by omega
      have fcn3 : b2 ≠ w.heap.size + 1 + 1 + 1 := by omega
      have fcl3 : b2 < w.heap.size + 1 + 1 + 1 := by omega
      clear ho hc eo
      generalize t.os[j] = on0 at *
      go_enter Tryz.func58, Tryz.ntmps58
      go_wp2
      exact bodyPost_ret (v := .agg #[.string (strOfNums nm), .int .i64 num, .int .i64 kind, .int .i64 ref, .int .i64 lab, .int .i64 j, .int .i64 key, .string ⟨#[]⟩, .string (strOfNums on0)]) (by simp [results, Tryz.results58, go_sem]) rfl ⟨rfl, by exact blBy⟩
    · rw [eo, es]
      clear ho eo
      go_enter Tryz.func58, Tryz.ntmps58
      go_wp2
      exact bodyPost_ret (v := .agg #[.string (strOfNums nm), .int .i64 num, .int .i64 kind, .int .i64 ref, .int .i64 lab, .int .i64 one, .int .i64 key, .string ⟨#[]⟩, .string ⟨#[]⟩]) (by simp [results, Tryz.results58, go_sem]) rfl ⟨rfl, by exact blBy⟩
end Go.Proofs.YtmjgonckadcbkaaGreatDoor
