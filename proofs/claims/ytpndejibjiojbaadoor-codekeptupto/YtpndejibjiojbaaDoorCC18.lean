/-
  code: the reader: lists of steps and of rows.
  code: the reader: a block.
  code: the reader: lists of blocks.
  code: the reader: a program's bytes, in general.
  code: Read, in general; what Valid says is a premise.
  code: a program's bytes are bytes.
-/
import Derived.Test.YtpndejibjiojbaaDoorCC11
namespace Go.Proofs.YtpndejibjiojbaaDoor
open Go.RowKit
set_option maxRecDepth 1000000
set_option linter.unusedVariables false
set_option linter.unusedSimpArgs false
set_option maxHeartbeats 2000000
/-- So many parts, up to the first fault. -/
def lsF {α : Type} (part : List Int → Bool → α × List Int × Bool) : Nat → List α → List Int → Bool → List α × List Int × Bool
  | 0, acc, xs, f => (acc, xs, f)
  | n + 1, acc, xs, f => if (part xs f).2.2 = true then ([], (part xs f).2.1, true) else lsF part n (acc ++ [(part xs f).1]) (part xs f).2.1 false
theorem szM_le (xs : List Int) (f : Bool) : (szM xs f).2.1.length ≤ xs.length ∧ ((szM xs f).2.2 = false → f = false ∧ (szM xs f).2.1.length < xs.length) := by
  unfold szM
  split
  · exact ⟨Nat.le_refl _, fun h => by cases h⟩
  · split
    · rename_i h0 he
      have hn := W.gv_next (Nat.zero_le _) he
      have hf : f = false := by cases f with | true => exact absurd rfl h0 | false => rfl
      exact ⟨by simp, fun _ => ⟨hf, by simp only [List.length_drop]; omega⟩⟩
    · exact ⟨Nat.le_refl _, fun h => by cases h⟩
theorem nbM_le (xs : List Int) (f : Bool) : (nbM xs f).2.1.length ≤ xs.length ∧ ((nbM xs f).2.2 = false → f = false ∧ (nbM xs f).2.1.length < xs.length) := szM_le xs f
theorem rwM_less (xs : List Int) (f : Bool) : (rwM xs f).2.2 = false → (rwM xs f).2.1.length < xs.length := fun h => by
  have h1 := (nbM_le _ _).2 h
  have h2 := (nbM_le xs f).2 h1.1
  unfold rwM
  dsimp only
  have h3 := h1.2
  have h4 := h2.2
  omega
theorem nsM_le : ∀ (k : Nat) (xs : List Int) (f : Bool), (nsM k xs f).2.1.length ≤ xs.length ∧ ((nsM k xs f).2.2 = false → f = false)
  | 0, xs, f => ⟨Nat.le_refl _, fun h => h⟩
  | k + 1, xs, f => by
    have h1 := nsM_le k xs f
    have h2 := nbM_le (nsM k xs f).2.1 (nsM k xs f).2.2
    exact ⟨Nat.le_trans h2.1 h1.1, fun h => h1.2 (h2.2 h).1⟩
theorem opM_less (xs : List Int) (f : Bool) : (opM xs f).2.2 = false → (opM xs f).2.1.length < xs.length := by
  unfold opM
  cases f with
  | true => intro h; cases h
  | false =>
    cases xs with
    | nil => intro h; cases h
    | cons c r =>
      dsimp only
      split
      · intro _; simp
      · intro h; cases h
theorem spM_less (xs : List Int) (f : Bool) : (spM xs f).2.2 = false → (spM xs f).2.1.length < xs.length := fun h => by
  have h1 := nsM_le (opC (opM xs f).1) (opM xs f).2.1 (opM xs f).2.2
  have h2 := opM_less xs f (h1.2 h)
  unfold spM
  exact Nat.lt_of_le_of_lt h1.1 h2
theorem Tryd.infoI16 : (Tryd.prog.info? 37).map (fun i => (i.zero, i.size, i.bytes)) = some (some (.agg #[.int .i64 0, .int .i64 0, .int .i64 0, .int .i64 0, .int .i64 0]), 5, 40) := by kernel_rfl
theorem apIN (base : Nat) (v : Value) (l : List IN) (y : IN) (w : World) (h : w.ownsRow base 37 5 v l.length (l.flatMap cIN)) (hb : base ≤ w.heap.size) (hn : l.length ≤ 4000000) :
    ∃ a c w', Hid ((Builtin.append_ #[32, 32] 32 #[v, .slice (some ⟨w.heap.size, 0, none⟩) 1 1]).run Tryd.prog (w.alloc (.cells #[.int .i64 y.op, .int .i64 y.a, .int .i64 y.b, .int .i64 y.c, .int .i64 y.d] 37)) = .ok (.slice a (l.length + 1) c) w') ∧ Hid (w'.ownsRow base 37 5 (.slice a (l.length + 1) c) (l ++ [y]).length ((l ++ [y]).flatMap cIN)) ∧ Hid (Grow w w' v (.slice a (l.length + 1) c)) := by
  obtain ⟨v', w', h1, h2, h3⟩ := append_st 37 32 5 40 (.agg #[.int .i64 0, .int .i64 0, .int .i64 0, .int .i64 0, .int .i64 0]) Tryd.underlying32 Tryd.infoI16 rfl (by decide) (by decide) base v l.length (l.flatMap cIN) w #[.int .i64 y.op, .int .i64 y.a, .int .i64 y.b, .int .i64 y.c, .int .i64 y.d] rfl (fun u hu => by simp at hu; rcases hu with rfl | rfl | rfl | rfl | rfl <;> rfl) h hb hn
  obtain ⟨a, c, rfl⟩ := own_shape h2
  exact ⟨a, c, w', hid h1, hid (by rw [List.flatMap_append, List.length_append]; exact h2), hid h3⟩
theorem cfRI (args : Array Value) (W0 : World) : (callFunc 42 args).run Tryd.prog W0 = .ok (.enter 42 args) W0 := cf_enter Tryd.func42 (by kernel_rfl) (by kernel_rfl) args W0
theorem listIT (w : World) (p L : Nat) (xs : List Int) (f : Bool) (h : RdA w p L xs f) (hL : L ≤ w.heap.size) (n : Nat) (hn : (n : Int) < 18446744073709551616) (hx : xs.length ≤ 4000000) : Calls Tryd.prog 41 #[.pointer (some ⟨p, 0, none⟩), .int .u64 (n : Int), .func (.func 42) #[.pointer (some ⟨p, 0, none⟩)] #[]] w fun e w' => ∃ a c, e = .returned (.slice a (lsF spM n [] xs f).1.length c) ∧ w'.ownsRow w.heap.size 37 5 (.slice a (lsF spM n [] xs f).1.length c) (lsF spM n [] xs f).1.length ((lsF spM n [] xs f).1.flatMap cIN) ∧ RdB w p L (lsF spM n [] xs f).2 w' := by
  have HLL := hid hL
  have HX := hid hx
  have H0 := hid h
  have hcf := cfRI
  have hp : p < w.heap.size := by obtain ⟨a, l, c, hS⟩ := h; exact hS.blk.lt
  obtain ⟨R, HRR⟩ : ∃ R, Hid (R = lsF spM n [] xs f) := ⟨_, hid rfl⟩
  rw [← HRR.out]
  clear hL hx h
  go_enter Tryd.func41, Tryd.ntmps41
  go_wp2
  go_loopw [7, 10] (fun s7 s10 wr => ∃ (i : Nat) (acc : List IN) (ys : List Int) (g : Bool), s10 = .int .u64 (i : Int) ∧ i ≤ n ∧ Hid (R = lsF spM (n - i) acc ys g) ∧ Hid (acc.length + ys.length ≤ 4000000) ∧ Hid (wr.ownsRow w.heap.size 37 5 s7 acc.length (acc.flatMap cIN)) ∧ Hid (RdA wr p L ys g) ∧ Hid (Keep (· ≠ p) w wr)) (fun s7 s10 wr => n - numAt wr s10)
  case atStart => exact ⟨0, [], xs, f, rfl, by omega, HRR, hid (by simpa using HX.out), hid (World.ownsRow_nil _ _ _ _), H0, hid (Keep.refl _ _)⟩
  case round =>
    obtain ⟨i, acc, ys, g, rfl, hi, HR, HA, HO, HD, HK⟩ := hrel
    clear H0 HRR
    by_cases hlt : i < n
    · have h2 : (i : Int) < (n : Int) := by omega
      obtain ⟨m, em⟩ : ∃ m, n - i = m + 1 := ⟨n - i - 1, by omega⟩
      have em' : n - (i + 1) = m := by omega
      rw [em, lsF] at HR
      have HP := hid (stepRT wr p L ys g HD.out (by have h1 := HLL.out; have h2 := HK.out.size; omega))
      have HM := hid (spM_less ys g)
      generalize spM ys g = o at *
      obtain ⟨y, zs, q⟩ := o
      dsimp only at *
      unfold vIN at HP
      go_wp2_with fail
      refine HP.out.mono ?_
      rintro e w2 ⟨rfl, hr2, hk2⟩
      have HO2 := hid (RdA.ownKept HD.out HO.out hk2 (by decide))
      have HD2 := hid hr2
      have HK2 : Hid (Keep (· ≠ p) w w2) := hid (HK.out.trans hk2)
      have hp2 : p < w2.heap.size := by have := HK2.out.size; omega
      obtain ⟨ra, rl, rcp, hS2⟩ := hr2
      have c76 : w2.cell? ⟨p, 76, none⟩ = some (.bool q) := by rw [hS2.blk.cellF, rdC_76]
      clear hk2 HP HO HD HK hS2 em
      have HO3 := hid (own_kept HO2.out (below_alloc (w := w2) (.cells #[.int .i64 y.op, .int .i64 y.a, .int .i64 y.b, .int .i64 y.c, .int .i64 y.d] 37)))
      have HD3 := hid (HD2.out.kept (below_alloc (w := w2) (.cells #[.int .i64 y.op, .int .i64 y.a, .int .i64 y.b, .int .i64 y.c, .int .i64 y.d] 37)))
      have HK3 : Hid (Keep (· ≠ p) w (w2.alloc (.cells #[.int .i64 y.op, .int .i64 y.a, .int .i64 y.b, .int .i64 y.c, .int .i64 y.d] 37))) := hid (HK2.out.trans (Keep.ofBelow (below_alloc _)))
      cases q with
      | true =>
        rw [if_pos rfl] at HR
        go_wp2
        go_ret
        exact ⟨none, 0, by rw [HR.out]; rfl, by rw [HR.out]; exact World.ownsRow_nil _ _ _ _, by rw [HR.out]; exact HD3.out, HK3.out⟩
      | false =>
        rw [if_neg (by decide)] at HR
        have HL3 : Hid ((acc ++ [y]).length + zs.length ≤ 4000000) := hid (by have h1 := HM.out rfl; have h2 := HA.out; rw [List.length_append, List.length_singleton]; omega)
        obtain ⟨a, c, w4, HRUN, HO4, HG4⟩ := apIN w.heap.size u7 acc y _ HO3.out HK3.out.size (by have := HA.out; omega)
        have HD4 := hid (RdA.grown HD3.out HO3.out HG4.out HLL.out (by decide))
        have HK4 := hid (Keep.grown HK3.out HO3.out HG4.out (Nat.le_refl _))
        rw [show (w2.alloc (.cells #[.int .i64 y.op, .int .i64 y.a, .int .i64 y.b, .int .i64 y.c, .int .i64 y.d] 37)).heap.size = w2.heap.size + 1 by simp] at HRUN
        have HE : Hid ((acc ++ [y]).length = acc.length + 1) := hid (by simp)
        clear HO2 HD2 HK2 HO3 HD3 HK3 HG4 HM HA
        rw [← em'] at HR
        have hwr : IntKind.u64.wrap ((i : Int) + 1) = (i : Int) + 1 := by simp [IntKind.wrap, IntKind.bits, IntKind.signed]; omega
        go_wp2_with (first | (at_builtin; refine wpList_append_ran rfl (.tmp 18) (.tmp 20) 32 32 rfl rfl u7 (.slice (some ⟨w2.heap.size + 1, 0, none⟩) 1 1) (.slice a (acc.length + 1) c) w4 rfl rfl HRUN.out ?_))
        exact ⟨⟨i + 1, acc ++ [y], zs, false, by simp, by omega, HR, HL3, HO4, HD4, HK4⟩, by simp [numAt]; omega⟩
    · have h2 : ¬ (i : Int) < (n : Int) := by omega
      obtain rfl : i = n := by omega
      rw [Nat.sub_self, lsF] at HR
      obtain ⟨va, vc, rfl⟩ := own_shape HO.out
      go_wp2
      go_ret
      exact ⟨va, vc, by rw [HR.out]; rfl, by rw [HR.out]; exact HO.out, by rw [HR.out]; exact HD.out, HK.out⟩
theorem Tryd.infoR16 : (Tryd.prog.info? 50).map (fun i => (i.zero, i.size, i.bytes)) = some (some (.agg #[.int .i64 0, .int .i64 0]), 2, 16) := by kernel_rfl
theorem apLN (base : Nat) (v : Value) (l : List LN) (y : LN) (w : World) (h : w.ownsRow base 50 2 v l.length (l.flatMap cLN)) (hb : base ≤ w.heap.size) (hn : l.length ≤ 4000000) :
    ∃ a c w', Hid ((Builtin.append_ #[33, 33] 33 #[v, .slice (some ⟨w.heap.size, 0, none⟩) 1 1]).run Tryd.prog (w.alloc (.cells #[.int .i64 y.tag, .int .i64 y.pl] 50)) = .ok (.slice a (l.length + 1) c) w') ∧ Hid (w'.ownsRow base 50 2 (.slice a (l.length + 1) c) (l ++ [y]).length ((l ++ [y]).flatMap cLN)) ∧ Hid (Grow w w' v (.slice a (l.length + 1) c)) := by
  obtain ⟨v', w', h1, h2, h3⟩ := append_st 50 33 2 16 (.agg #[.int .i64 0, .int .i64 0]) Tryd.underlying33 Tryd.infoR16 rfl (by decide) (by decide) base v l.length (l.flatMap cLN) w #[.int .i64 y.tag, .int .i64 y.pl] rfl (fun u hu => by simp at hu; rcases hu with rfl | rfl <;> rfl) h hb hn
  obtain ⟨a, c, rfl⟩ := own_shape h2
  exact ⟨a, c, w', hid h1, hid (by rw [List.flatMap_append, List.length_append]; exact h2), hid h3⟩
theorem cfRR (args : Array Value) (W0 : World) : (callFunc 44 args).run Tryd.prog W0 = .ok (.enter 44 args) W0 := cf_enter Tryd.func44 (by kernel_rfl) (by kernel_rfl) args W0
theorem listRT (w : World) (p L : Nat) (xs : List Int) (f : Bool) (h : RdA w p L xs f) (hL : L ≤ w.heap.size) (n : Nat) (hn : (n : Int) < 18446744073709551616) (hx : xs.length ≤ 4000000) : Calls Tryd.prog 43 #[.pointer (some ⟨p, 0, none⟩), .int .u64 (n : Int), .func (.func 44) #[.pointer (some ⟨p, 0, none⟩)] #[]] w fun e w' => ∃ a c, e = .returned (.slice a (lsF rwM n [] xs f).1.length c) ∧ w'.ownsRow w.heap.size 50 2 (.slice a (lsF rwM n [] xs f).1.length c) (lsF rwM n [] xs f).1.length ((lsF rwM n [] xs f).1.flatMap cLN) ∧ RdB w p L (lsF rwM n [] xs f).2 w' := by
  have HLL := hid hL
  have HX := hid hx
  have H0 := hid h
  have hcf := cfRR
  have hp : p < w.heap.size := by obtain ⟨a, l, c, hS⟩ := h; exact hS.blk.lt
  obtain ⟨R, HRR⟩ : ∃ R, Hid (R = lsF rwM n [] xs f) := ⟨_, hid rfl⟩
  rw [← HRR.out]
  clear hL hx h
  go_enter Tryd.func43, Tryd.ntmps43
  go_wp2
  go_loopw [7, 10] (fun s7 s10 wr => ∃ (i : Nat) (acc : List LN) (ys : List Int) (g : Bool), s10 = .int .u64 (i : Int) ∧ i ≤ n ∧ Hid (R = lsF rwM (n - i) acc ys g) ∧ Hid (acc.length + ys.length ≤ 4000000) ∧ Hid (wr.ownsRow w.heap.size 50 2 s7 acc.length (acc.flatMap cLN)) ∧ Hid (RdA wr p L ys g) ∧ Hid (Keep (· ≠ p) w wr)) (fun s7 s10 wr => n - numAt wr s10)
  case atStart => exact ⟨0, [], xs, f, rfl, by omega, HRR, hid (by simpa using HX.out), hid (World.ownsRow_nil _ _ _ _), H0, hid (Keep.refl _ _)⟩
  case round =>
    obtain ⟨i, acc, ys, g, rfl, hi, HR, HA, HO, HD, HK⟩ := hrel
    clear H0 HRR
    by_cases hlt : i < n
    · have h2 : (i : Int) < (n : Int) := by omega
      obtain ⟨m, em⟩ : ∃ m, n - i = m + 1 := ⟨n - i - 1, by omega⟩
      have em' : n - (i + 1) = m := by omega
      rw [em, lsF] at HR
      have HP := hid (rowRT wr p L ys g HD.out)
      have HM := hid (rwM_less ys g)
      generalize rwM ys g = o at *
      obtain ⟨y, zs, q⟩ := o
      dsimp only at *
      skip
      go_wp2_with fail
      refine HP.out.mono ?_
      rintro e w2 ⟨rfl, hr2, hk2⟩
      have HO2 := hid (RdA.ownKept HD.out HO.out hk2 (by decide))
      have HD2 := hid hr2
      have HK2 : Hid (Keep (· ≠ p) w w2) := hid (HK.out.trans hk2)
      have hp2 : p < w2.heap.size := by have := HK2.out.size; omega
      obtain ⟨ra, rl, rcp, hS2⟩ := hr2
      have c76 : w2.cell? ⟨p, 76, none⟩ = some (.bool q) := by rw [hS2.blk.cellF, rdC_76]
      clear hk2 HP HO HD HK hS2 em
      have HO3 := hid (own_kept HO2.out (below_alloc (w := w2) (.cells #[.int .i64 y.tag, .int .i64 y.pl] 50)))
      have HD3 := hid (HD2.out.kept (below_alloc (w := w2) (.cells #[.int .i64 y.tag, .int .i64 y.pl] 50)))
      have HK3 : Hid (Keep (· ≠ p) w (w2.alloc (.cells #[.int .i64 y.tag, .int .i64 y.pl] 50))) := hid (HK2.out.trans (Keep.ofBelow (below_alloc _)))
      cases q with
      | true =>
        rw [if_pos rfl] at HR
        go_wp2
        go_ret
        exact ⟨none, 0, by rw [HR.out]; rfl, by rw [HR.out]; exact World.ownsRow_nil _ _ _ _, by rw [HR.out]; exact HD3.out, HK3.out⟩
      | false =>
        rw [if_neg (by decide)] at HR
        have HL3 : Hid ((acc ++ [y]).length + zs.length ≤ 4000000) := hid (by have h1 := HM.out rfl; have h2 := HA.out; rw [List.length_append, List.length_singleton]; omega)
        obtain ⟨a, c, w4, HRUN, HO4, HG4⟩ := apLN w.heap.size u7 acc y _ HO3.out HK3.out.size (by have := HA.out; omega)
        have HD4 := hid (RdA.grown HD3.out HO3.out HG4.out HLL.out (by decide))
        have HK4 := hid (Keep.grown HK3.out HO3.out HG4.out (Nat.le_refl _))
        rw [show (w2.alloc (.cells #[.int .i64 y.tag, .int .i64 y.pl] 50)).heap.size = w2.heap.size + 1 by simp] at HRUN
        have HE : Hid ((acc ++ [y]).length = acc.length + 1) := hid (by simp)
        clear HO2 HD2 HK2 HO3 HD3 HK3 HG4 HM HA
        rw [← em'] at HR
        have hwr : IntKind.u64.wrap ((i : Int) + 1) = (i : Int) + 1 := by simp [IntKind.wrap, IntKind.bits, IntKind.signed]; omega
        go_wp2_with (first | (at_builtin; refine wpList_append_ran rfl (.tmp 18) (.tmp 20) 33 33 rfl rfl u7 (.slice (some ⟨w2.heap.size + 1, 0, none⟩) 1 1) (.slice a (acc.length + 1) c) w4 rfl rfl HRUN.out ?_))
        exact ⟨⟨i + 1, acc ++ [y], zs, false, by simp, by omega, HR, HL3, HO4, HD4, HK4⟩, by simp [numAt]; omega⟩
    · have h2 : ¬ (i : Int) < (n : Int) := by omega
      obtain rfl : i = n := by omega
      rw [Nat.sub_self, lsF] at HR
      obtain ⟨va, vc, rfl⟩ := own_shape HO.out
      go_wp2
      go_ret
      exact ⟨va, vc, by rw [HR.out]; rfl, by rw [HR.out]; exact HO.out, by rw [HR.out]; exact HD.out, HK.out⟩
theorem lsF_le {α : Type} (part : List Int → Bool → α × List Int × Bool) (hp : ∀ xs f, (part xs f).2.1.length ≤ xs.length) : ∀ (n : Nat) (acc : List α) (xs : List Int) (f : Bool), (lsF part n acc xs f).2.1.length ≤ xs.length
  | 0, _, _, _ => Nat.le_refl _
  | n + 1, acc, xs, f => by
    rw [lsF]
    split
    · exact hp xs f
    · exact Nat.le_trans (lsF_le part hp n _ _ _) (hp xs f)
theorem opM_le (xs : List Int) (f : Bool) : (opM xs f).2.1.length ≤ xs.length := by
  unfold opM
  cases f with
  | true => exact Nat.le_refl _
  | false =>
    cases xs with
    | nil => exact Nat.le_refl _
    | cons c r =>
      dsimp only
      split <;> simp
theorem spM_le (xs : List Int) (f : Bool) : (spM xs f).2.1.length ≤ xs.length := Nat.le_trans (nsM_le _ _ _).1 (opM_le xs f)
theorem rwM_le (xs : List Int) (f : Bool) : (rwM xs f).2.1.length ≤ xs.length := Nat.le_trans (nbM_le _ _).1 (nbM_le _ _).1
theorem RdA.szB {w : World} {p L : Nat} {xs : List Int} {f : Bool} (h : RdA w p L xs f) : ∃ n : Nat, (szM xs f).1 = (n : Int) ∧ (n : Int) < 18446744073709551616 := by
  obtain ⟨a, len, cap, hS⟩ := h
  unfold szM
  split
  · exact ⟨0, rfl, by decide⟩
  · split
    · have := W.gv_bd (W.bd_mem hS.rd.bd) 0
      exact ⟨(W.gv xs 0).1.toNat, by omega, by omega⟩
    · exact ⟨0, rfl, by decide⟩
/-- A block, its three counts known. -/
def blK (n1 n2 n3 : Nat) (xs : List Int) (f : Bool) : BK × List Int × Bool :=
  (⟨(lsF spM n1 [] xs f).1, (lsF spM n2 [] (lsF spM n1 [] xs f).2.1 (lsF spM n1 [] xs f).2.2).1, (lsF rwM n3 [] (lsF spM n2 [] (lsF spM n1 [] xs f).2.1 (lsF spM n1 [] xs f).2.2).2.1 (lsF spM n2 [] (lsF spM n1 [] xs f).2.1 (lsF spM n1 [] xs f).2.2).2.2).1⟩,
    (lsF rwM n3 [] (lsF spM n2 [] (lsF spM n1 [] xs f).2.1 (lsF spM n1 [] xs f).2.2).2.1 (lsF spM n2 [] (lsF spM n1 [] xs f).2.1 (lsF spM n1 [] xs f).2.2).2.2).2)
def sz3 (xs : List Int) (f : Bool) : Int × Int × Int × List Int × Bool :=
  ((szM xs f).1, (szM (szM xs f).2.1 (szM xs f).2.2).1, szM (szM (szM xs f).2.1 (szM xs f).2.2).2.1 (szM (szM xs f).2.1 (szM xs f).2.2).2.2)
/-- A block. -/
def blM (xs : List Int) (f : Bool) : BK × List Int × Bool := blK (sz3 xs f).1.toNat (sz3 xs f).2.1.toNat (sz3 xs f).2.2.1.toNat (sz3 xs f).2.2.2.1 (sz3 xs f).2.2.2.2
theorem no8_3 (a b c : Option Addr) (n1 n2 n3 c1 c2 c3 : Nat) : ∀ (i : Nat) (n : Int), (#[Value.slice a n1 c1, Value.slice b n2 c2, Value.slice c n3 c3] : Array Value)[i]? ≠ some (Value.int .u8 n) := by
  intro i n h
  rcases i with _ | _ | _ | i
  · cases h
  · cases h
  · cases h
  · simp at h
theorem blockRT (w : World) (p L : Nat) (xs : List Int) (f : Bool) (h : RdA w p L xs f) (hL : L ≤ w.heap.size) (hx : xs.length ≤ 4000000) : Calls Tryd.prog 25 #[.pointer (some ⟨p, 0, none⟩)] w fun e w' => ∃ da dc ea ec ra rc, e = .returned (.agg #[.slice da (blM xs f).1.dec.length dc, .slice ea (blM xs f).1.enc.length ec, .slice ra (blM xs f).1.rows.length rc]) ∧ BkO w' w.heap.size (blM xs f).1 (.slice da (blM xs f).1.dec.length dc) (.slice ea (blM xs f).1.enc.length ec) (.slice ra (blM xs f).1.rows.length rc) ∧ RdB w p L (blM xs f).2 w' := by
  have hp : p < w.heap.size := by obtain ⟨a, l, c, hS⟩ := h; exact hS.blk.lt
  have H0 := hid (h.kept (below_alloc (w := w) (.cells #[.slice none 0 0, .slice none 0 0, .slice none 0 0] 35)))
  have HL := hid hL
  have HX := hid hx
  clear h hL hx
  unfold blM sz3
  dsimp only
  have S1 := szM_le xs f
  have S2 := szM_le (szM xs f).2.1 (szM xs f).2.2
  have S3 := szM_le (szM (szM xs f).2.1 (szM xs f).2.2).2.1 (szM (szM xs f).2.1 (szM xs f).2.2).2.2
  have HXS : Hid ((szM (szM (szM xs f).2.1 (szM xs f).2.2).2.1 (szM (szM xs f).2.1 (szM xs f).2.2).2.2).2.1.length ≤ 4000000) := hid (by have := HX.out; omega)
  clear S1 S2 S3
  obtain ⟨n1, e1, b1⟩ := H0.out.szB
  have T1 := hid (sizeT _ _ _ _ _ H0.out)
  go_enter Tryd.func25, Tryd.ntmps25
  go_wp2_with fail
  refine T1.out.mono ?_
  rintro e w1 ⟨rfl, hr1, hk1⟩
  have B1 : Hid (Blk w1 w.heap.size 35 #[.slice none 0 0, .slice none 0 0, .slice none 0 0]) := hid ((Blk.new _ _ _).keep hk1 (by omega))
  have K1 : Hid (Keep (· ≠ p) w w1) := hid ((Keep.ofBelow (below_alloc _)).trans hk1)
  clear T1 H0 hk1
  obtain ⟨n2, e2, b2⟩ := hr1.szB
  have T2 := hid (sizeT _ _ _ _ _ hr1)
  go_wp2_with fail
  refine T2.out.mono ?_
  rintro e w2 ⟨rfl, hr2, hk2⟩
  have B2 := hid (B1.out.keep hk2 (by omega))
  have K2 : Hid (Keep (· ≠ p) w w2) := hid (K1.out.trans hk2)
  clear T2 hr1 hk2 B1 K1
  obtain ⟨n3, e3, b3⟩ := hr2.szB
  have T3 := hid (sizeT _ _ _ _ _ hr2)
  go_wp2_with fail
  refine T3.out.mono ?_
  rintro e w3 ⟨rfl, hr3, hk3⟩
  have B3 := hid (B2.out.keep hk3 (by omega))
  have K3 : Hid (Keep (· ≠ p) w w3) := hid (K2.out.trans hk3)
  have R3 := hid hr3
  clear T3 hr2 hk3 B2 K2 hr3
  have HBL : Hid (∀ Y G, blK (szM xs f).1.toNat (szM (szM xs f).2.1 (szM xs f).2.2).1.toNat (szM (szM (szM xs f).2.1 (szM xs f).2.2).2.1 (szM (szM xs f).2.1 (szM xs f).2.2).2.2).1.toNat Y G = blK n1 n2 n3 Y G) := hid (fun Y G => by rw [e1, e2, e3]; rfl)
  rw [e3]
  clear e1 e2 e3
  have LL3 : Hid (L ≤ w3.heap.size) := hid (by have h1 := HL.out; have h2 := K3.out.size; omega)
  have I1 := hid (listIT w3 p L _ _ R3.out LL3.out n1 b1 HXS.out)
  have LE1 := hid (lsF_le spM spM_le n1 [] (szM (szM (szM xs f).2.1 (szM xs f).2.2).2.1 (szM (szM xs f).2.1 (szM xs f).2.2).2.2).2.1 (szM (szM (szM xs f).2.1 (szM xs f).2.2).2.1 (szM (szM xs f).2.1 (szM xs f).2.2).2.2).2.2)
  have HBK : Hid (∀ Y G, blK n1 n2 n3 Y G = (⟨(lsF spM n1 [] Y G).1, (lsF spM n2 [] (lsF spM n1 [] Y G).2.1 (lsF spM n1 [] Y G).2.2).1, (lsF rwM n3 [] (lsF spM n2 [] (lsF spM n1 [] Y G).2.1 (lsF spM n1 [] Y G).2.2).2.1 (lsF spM n2 [] (lsF spM n1 [] Y G).2.1 (lsF spM n1 [] Y G).2.2).2.2).1⟩, (lsF rwM n3 [] (lsF spM n2 [] (lsF spM n1 [] Y G).2.1 (lsF spM n1 [] Y G).2.2).2.1 (lsF spM n2 [] (lsF spM n1 [] Y G).2.1 (lsF spM n1 [] Y G).2.2).2.2).2)) := hid (fun Y G => rfl)
  go_wp2_with fail
  refine I1.out.mono ?_
  rintro e w4 ⟨da, dc, rfl, ho4, hr4, hk4⟩
  have O4 := hid (own_mono ho4 (base' := w.heap.size) K3.out.size)
  have B4 := hid (B3.out.keep hk4 (by omega))
  have K4 : Hid (Keep (· ≠ p) w w4) := hid (K3.out.trans hk4)
  have R4 := hid hr4
  have N4 : Hid (∀ b, (Value.slice da (lsF spM n1 [] (szM (szM (szM xs f).2.1 (szM xs f).2.2).2.1 (szM (szM xs f).2.1 (szM xs f).2.2).2.2).2.1 (szM (szM (szM xs f).2.1 (szM xs f).2.2).2.1 (szM (szM xs f).2.1 (szM xs f).2.2).2.2).2.2).1.length dc).ownBlock = some b → b < w4.heap.size) := hid (fun b hb => (own_type ho4 hb).2.1)
  clear I1 R3 B3 K3 LL3 ho4 hr4 hk4
  have LL4 : Hid (L ≤ w4.heap.size) := hid (by have h1 := HL.out; have h2 := K4.out.size; omega)
  have I2 := hid (listIT w4 p L _ _ R4.out LL4.out n2 b2 (Nat.le_trans LE1.out HXS.out))
  obtain ⟨D, HD⟩ : ∃ D, Hid (D = lsF spM n1 [] (szM (szM (szM xs f).2.1 (szM xs f).2.2).2.1 (szM (szM xs f).2.1 (szM xs f).2.2).2.2).2.1 (szM (szM (szM xs f).2.1 (szM xs f).2.2).2.1 (szM (szM xs f).2.1 (szM xs f).2.2).2.2).2.2) := ⟨_, hid rfl⟩
  rw [← HD.out] at I2 O4 R4 N4 LE1
  rw [← HD.out]
  have LE2 := hid (Nat.le_trans (lsF_le spM spM_le n2 [] D.2.1 D.2.2) LE1.out)
  go_wp2_with fail
  refine I2.out.mono ?_
  rintro e w5 ⟨ea, ec, rfl, ho5, hr5, hk5⟩
  have O5 := hid (RdA.ownKept R4.out O4.out hk5 (by decide))
  have P5 := hid (own_mono ho5 (base' := w.heap.size) K4.out.size)
  have A5 : Hid (∀ b, (Value.slice da D.1.length dc).ownBlock = some b → (Value.slice ea (lsF spM n2 [] D.2.1 D.2.2).1.length ec).ownBlock ≠ some b) := hid (fun b hb he => by have h1 := N4.out b hb; have h2 := (own_type ho5 he).1; omega)
  have B5 := hid (B4.out.keep hk5 (by omega))
  have K5 : Hid (Keep (· ≠ p) w w5) := hid (K4.out.trans hk5)
  have R5 := hid hr5
  clear I2 R4 B4 K4 LL4 ho5 hr5 hk5 O4 N4 LE1
  obtain ⟨E, HE⟩ : ∃ E, Hid (E = lsF spM n2 [] D.2.1 D.2.2) := ⟨_, hid rfl⟩
  rw [← HE.out] at P5 A5 R5 LE2
  rw [← HE.out]
  have LL5 : Hid (L ≤ w5.heap.size) := hid (by have h1 := HL.out; have h2 := K5.out.size; omega)
  have I3 := hid (listRT w5 p L _ _ R5.out LL5.out n3 b3 (Nat.le_trans LE2.out HXS.out))
  go_wp2_with fail
  refine I3.out.mono ?_
  rintro e w6 ⟨ra, rc, rfl, ho6, hr6, hk6⟩
  have O6 := hid (RdA.ownKept R5.out O5.out hk6 (by decide))
  have P6 := hid (RdA.ownKept R5.out P5.out hk6 (by decide))
  have Q6 := hid (own_mono ho6 (base' := w.heap.size) K5.out.size)
  have B6 := hid (B5.out.keep hk6 (by omega))
  have K6 : Hid (Keep (· ≠ p) w w6) := hid (K5.out.trans hk6)
  have R6 := hid hr6
  clear I3 R5 B5 K5 LL5 ho6 hr6 hk6 O5 P5 LE2
  obtain ⟨F, HF⟩ : ∃ F, Hid (F = lsF rwM n3 [] E.2.1 E.2.2) := ⟨_, hid rfl⟩
  rw [← HF.out] at Q6 R6
  rw [← HF.out]
  have HFIN : Hid (∀ Y G, D = lsF spM n1 [] Y G → blK n1 n2 n3 Y G = (⟨D.1, E.1, F.1⟩, F.2)) := hid (fun Y G h => by rw [HBK.out, ← h, ← HE.out, ← HF.out])
  have x6 := B6.out.cellF
  have y6 := B6.out.frz
  have z6 := B6.out.lt
  go_wp2
  refine bodyPost_ret (v := .agg #[.slice da D.1.length dc, .slice ea E.1.length ec, .slice ra F.1.length rc]) (by simp [results, Tryd.results25, go_sem, x6, z6]) rfl ?_
  rw [HBL.out, HFIN.out _ _ HD.out]
  have kk : ∀ {e0 s0 n0 : Nat} {v0 : Value} {fl0 : List Value}, w6.ownsRow w.heap.size e0 s0 v0 n0 fl0 → 35 ≠ e0 → (((w6.setCell ⟨w.heap.size, 0, none⟩ (.slice da D.1.length dc)).setCell ⟨w.heap.size, 1, none⟩ (.slice ea E.1.length ec)).setCell ⟨w.heap.size, 2, none⟩ (.slice ra F.1.length rc)).ownsRow w.heap.size e0 s0 v0 n0 fl0 := fun h0 ht => own_keep (f := (· ≠ w.heap.size)) h0 (fun k hk e1 => own_neG h0 B6.out ht (by rw [hk, e1])) (((Keep.setCell _ _ _ (fun h => h rfl)).trans (Keep.setCell _ _ _ (fun h => h rfl))).trans (Keep.setCell _ _ _ (fun h => h rfl)))
  refine ⟨da, dc, ea, ec, ra, rc, rfl, ⟨kk O6.out (by decide), kk P6.out (by decide), kk Q6.out (by decide), A5.out⟩, ?_, ?_⟩
  · exact RdA.keepR R6.out B6.out (no8_3 _ _ _ _ _ _ _ _ _) (by omega) (((Keep.setCell _ _ _ (fun h => h rfl)).trans (Keep.setCell _ _ _ (fun h => h rfl))).trans (Keep.setCell _ _ _ (fun h => h rfl)))
  · exact K6.out.offNew (R := w.heap.size) (((Keep.setCell _ _ _ (fun h => h rfl)).trans (Keep.setCell _ _ _ (fun h => h rfl))).trans (Keep.setCell _ _ _ (fun h => h rfl))) (Nat.le_refl _)
theorem lsF_f {α : Type} (part : List Int → Bool → α × List Int × Bool) (hp : ∀ xs f, (part xs f).2.2 = false → f = false) : ∀ (n : Nat) (acc : List α) (xs : List Int) (f : Bool), (lsF part n acc xs f).2.2 = false → f = false
  | 0, _, _, _, h => h
  | n + 1, acc, xs, f, h => by
    rw [lsF] at h
    split at h
    · cases h
    · rename_i hq
      exact hp xs f (by simpa using hq)
theorem spM_f (xs : List Int) (f : Bool) (h : (spM xs f).2.2 = false) : f = false := by
  have h1 := (nsM_le (opC (opM xs f).1) (opM xs f).2.1 (opM xs f).2.2).2 h
  unfold opM at h1
  cases f with
  | true => cases h1
  | false => rfl
theorem rwM_f (xs : List Int) (f : Bool) (h : (rwM xs f).2.2 = false) : f = false := ((nbM_le xs f).2 ((nbM_le _ _).2 h).1).1
theorem blM_less (xs : List Int) (f : Bool) (h : (blM xs f).2.2 = false) : (blM xs f).2.1.length < xs.length := by
  unfold blM sz3 blK at h ⊢
  dsimp only at h ⊢
  have h1 := lsF_f rwM rwM_f _ _ _ _ h
  have h2 := lsF_f spM spM_f _ _ _ _ h1
  have h3 := lsF_f spM spM_f _ _ _ _ h2
  have s3 := (szM_le _ _).2 h3
  have s2 := (szM_le _ _).2 s3.1
  have s1 := (szM_le xs f).2 s2.1
  refine Nat.lt_of_le_of_lt (lsF_le rwM rwM_le _ _ _ _) (Nat.lt_of_le_of_lt (lsF_le spM spM_le _ _ _ _) (Nat.lt_of_le_of_lt (lsF_le spM spM_le _ _ _ _) ?_))
  have := s3.2
  have := s2.2
  have := s1.2
  omega
theorem own_growG {w w' : World} {b1 e1 z1 n1 b2 e2 z2 n2 : Nat} {v v' u : Value} {f1 f2 : List Value} (g : Grow w w' v v') (h : w.ownsRow b1 e1 z1 v n1 f1) (q : w.ownsRow b2 e2 z2 u n2 f2) (he : e1 ≠ e2) : w'.ownsRow b2 e2 z2 u n2 f2 :=
  own_keep (f := fun b => v.ownBlock ≠ some b) q (fun k hk hv => by
    obtain ⟨_, _, c1, h1⟩ := own_type h hv
    obtain ⟨_, _, c2, h2⟩ := own_type q hk
    rw [h1] at h2
    cases h2
    exact he rfl) (Keep.ofGrow g (fun k hk => hk))
theorem Tryd.infoB16 : (Tryd.prog.info? 35).map (fun i => (i.zero, i.size, i.bytes)) = some (some (.agg #[.slice none 0 0, .slice none 0 0, .slice none 0 0]), 3, 72) := by kernel_rfl
theorem apBV {w : World} {base : Nat} {v : Value} {xs : List BV} (h : LwO w base v xs) (hb : base ≤ w.heap.size) (hn : xs.length ≤ 4000000) (k : BK) (da ea ra : Option Addr) (n1 dc n2 ec n3 rc : Nat) (ho : BkO w base k (.slice da n1 dc) (.slice ea n2 ec) (.slice ra n3 rc)) :
    ∃ a c w', Hid ((Builtin.append_ #[22, 22] 22 #[v, .slice (some ⟨w.heap.size, 0, none⟩) 1 1]).run Tryd.prog (w.alloc (.cells #[.slice da n1 dc, .slice ea n2 ec, .slice ra n3 rc] 35)) = .ok (.slice a (xs.length + 1) c) w') ∧ Hid (LwO w' base (.slice a (xs.length + 1) c) (xs ++ [⟨k, .slice da n1 dc, .slice ea n2 ec, .slice ra n3 rc⟩])) ∧ Hid (Grow w w' v (.slice a (xs.length + 1) c)) := by
  obtain ⟨v', w', h1, h2, h3⟩ := append_st 35 22 3 72 (.agg #[.slice none 0 0, .slice none 0 0, .slice none 0 0]) Tryd.underlying22 Tryd.infoB16 rfl (by decide) (by decide) base v xs.length (xs.flatMap cBV) w #[.slice da n1 dc, .slice ea n2 ec, .slice ra n3 rc] rfl (fun u hu => by simp at hu; rcases hu with rfl | rfl | rfl <;> rfl) h.row hb hn
  obtain ⟨a, c, rfl⟩ := own_shape h2
  have hk : ∀ {k : BK} {d e r : Value}, BkO w base k d e r → BkO w' base k d e r := fun q => ⟨own_growG h3 h.row q.hd (by decide), own_growG h3 h.row q.he (by decide), own_growG h3 h.row q.hr (by decide), q.ap⟩
  refine ⟨a, c, w', hid h1, hid ⟨by rw [List.flatMap_append, List.length_append]; exact h2, fun x hx => ?_⟩, hid h3⟩
  rcases List.mem_append.1 hx with hx | hx
  · exact hk (h.el x hx)
  · simp at hx
    subst hx
    exact hk ho
theorem RdA.lwKept {w w' : World} {p L : Nat} {xs : List Int} {f : Bool} (h : RdA w p L xs f) {base : Nat} {v : Value} {bs : List BV} (ho : LwO w base v bs) (g : Keep (· ≠ p) w w') : LwO w' base v bs := ⟨RdA.ownKept h ho.row g (by decide), fun x hx => ⟨RdA.ownKept h (ho.el x hx).hd g (by decide), RdA.ownKept h (ho.el x hx).he g (by decide), RdA.ownKept h (ho.el x hx).hr g (by decide), (ho.el x hx).ap⟩⟩
/-- The steps of different blocks lie apart. -/
def ApB (x y : BV) : Prop := ∀ b, (x.d.ownBlock = some b ∨ x.e.ownBlock = some b) → y.d.ownBlock ≠ some b ∧ y.e.ownBlock ≠ some b
def ApL (bs : List BV) : Prop := bs.Pairwise ApB
theorem ApL.push {w w2 : World} {base m : Nat} {v : Value} {acc : List BV} (h : ApL acc) (ho : LwO w base v acc) (hm : w.heap.size ≤ m) {k : BK} {d e r : Value} (hb : BkO w2 m k d e r) : ApL (acc ++ [⟨k, d, e, r⟩]) := by
  refine List.pairwise_append.2 ⟨h, List.pairwise_singleton _ _, fun x hx y hy => ?_⟩
  simp only [List.mem_cons, List.not_mem_nil, or_false] at hy
  subst hy
  intro b hx'
  have hlt : b < w.heap.size := by
    rcases hx' with q | q
    · exact (own_type (ho.el x hx).hd q).2.1
    · exact (own_type (ho.el x hx).he q).2.1
  exact ⟨fun q => by have := (own_type hb.hd q).1; omega, fun q => by have := (own_type hb.he q).1; omega⟩
theorem cfRB (args : Array Value) (W0 : World) : (callFunc 25 args).run Tryd.prog W0 = .ok (.enter 25 args) W0 := cf_enter Tryd.func25 (by kernel_rfl) (by kernel_rfl) args W0
theorem listBT (w : World) (p L : Nat) (xs : List Int) (f : Bool) (h : RdA w p L xs f) (hL : L ≤ w.heap.size) (n : Nat) (hn : (n : Int) < 18446744073709551616) (hx : xs.length ≤ 4000000) : Calls Tryd.prog 23 #[.pointer (some ⟨p, 0, none⟩), .int .u64 (n : Int), .func (.func 25) #[.pointer (some ⟨p, 0, none⟩)] #[]] w fun e w' => ∃ a c bs, e = .returned (.slice a bs.length c) ∧ bs.map BV.k = (lsF blM n [] xs f).1 ∧ LwO w' w.heap.size (.slice a bs.length c) bs ∧ RdB w p L (lsF blM n [] xs f).2 w' ∧ ApL bs := by
  have HLL := hid hL
  have HX := hid hx
  have H0 := hid h
  have hcf := cfRB
  have hp : p < w.heap.size := by obtain ⟨a, l, c, hS⟩ := h; exact hS.blk.lt
  obtain ⟨R, HRR⟩ : ∃ R, Hid (R = lsF blM n [] xs f) := ⟨_, hid rfl⟩
  rw [← HRR.out]
  clear hL hx h
  go_enter Tryd.func23, Tryd.ntmps23
  go_wp2
  go_loopw [7, 10] (fun s7 s10 wr => ∃ (i : Nat) (acc : List BV) (ys : List Int) (g : Bool), s10 = .int .u64 (i : Int) ∧ i ≤ n ∧ Hid (R = lsF blM (n - i) (acc.map BV.k) ys g) ∧ Hid (acc.length + ys.length ≤ 4000000) ∧ Hid (LwO wr w.heap.size s7 acc) ∧ Hid (ApL acc) ∧ Hid (RdA wr p L ys g) ∧ Hid (Keep (· ≠ p) w wr)) (fun s7 s10 wr => n - numAt wr s10)
  case atStart => exact ⟨0, [], xs, f, rfl, by omega, HRR, hid (by simpa using HX.out), hid ⟨World.ownsRow_nil _ _ _ _, fun x hx => by cases hx⟩, hid List.Pairwise.nil, H0, hid (Keep.refl _ _)⟩
  case round =>
    obtain ⟨i, acc, ys, g, rfl, hi, HR, HA, HO, HAP, HD, HK⟩ := hrel
    clear H0 HRR
    by_cases hlt : i < n
    · have h2 : (i : Int) < (n : Int) := by omega
      obtain ⟨m, em⟩ : ∃ m, n - i = m + 1 := ⟨n - i - 1, by omega⟩
      have em' : n - (i + 1) = m := by omega
      rw [em, lsF] at HR
      have HP := hid (blockRT wr p L ys g HD.out (by have h1 := HLL.out; have h2 := HK.out.size; omega) (by have := HA.out; omega))
      have HM := hid (blM_less ys g)
      generalize blM ys g = o at *
      obtain ⟨y, zs, q⟩ := o
      dsimp only at *
      go_wp2_with fail
      refine HP.out.mono ?_
      rintro e w2 ⟨da, dc, ea, ec, ra, rc, rfl, hb2, hr2, hk2⟩
      have HO2 := hid (RdA.lwKept HD.out HO.out hk2)
      replace HAP := hid (HAP.out.push HO.out (Nat.le_refl _) hb2)
      have HB2 := hid (hb2.mono HK.out.size)
      have HD2 := hid hr2
      have HK2 : Hid (Keep (· ≠ p) w w2) := hid (HK.out.trans hk2)
      have hp2 : p < w2.heap.size := by have := HK2.out.size; omega
      obtain ⟨r0, r1, r2, hS2⟩ := hr2
      have c76 : w2.cell? ⟨p, 76, none⟩ = some (.bool q) := by rw [hS2.blk.cellF, rdC_76]
      clear hk2 hb2 HP HO HD HK hS2 em
      have HO3 := hid (HO2.out.kept (below_alloc (w := w2) (.cells #[.slice da y.dec.length dc, .slice ea y.enc.length ec, .slice ra y.rows.length rc] 35)))
      have HB3 := hid (HB2.out.kept (below_alloc (w := w2) (.cells #[.slice da y.dec.length dc, .slice ea y.enc.length ec, .slice ra y.rows.length rc] 35)))
      have HD3 := hid (HD2.out.kept (below_alloc (w := w2) (.cells #[.slice da y.dec.length dc, .slice ea y.enc.length ec, .slice ra y.rows.length rc] 35)))
      have HK3 : Hid (Keep (· ≠ p) w (w2.alloc (.cells #[.slice da y.dec.length dc, .slice ea y.enc.length ec, .slice ra y.rows.length rc] 35))) := hid (HK2.out.trans (Keep.ofBelow (below_alloc _)))
      cases q with
      | true =>
        rw [if_pos rfl] at HR
        go_wp2
        go_ret
        exact ⟨none, 0, [], rfl, by rw [HR.out]; rfl, ⟨World.ownsRow_nil _ _ _ _, fun x hx => by cases hx⟩, ⟨by rw [HR.out]; exact HD3.out, HK3.out⟩, List.Pairwise.nil⟩
      | false =>
        rw [if_neg (by decide)] at HR
        obtain ⟨a, c, w4, HRUN, HO4, HG4⟩ := apBV HO3.out HK3.out.size (by have := HA.out; omega) y da ea ra _ dc _ ec _ rc HB3.out
        have HL3 : Hid ((acc ++ [(⟨y, .slice da y.dec.length dc, .slice ea y.enc.length ec, .slice ra y.rows.length rc⟩ : BV)]).length + zs.length ≤ 4000000) := hid (by have h1 := HM.out rfl; have h2 := HA.out; rw [List.length_append, List.length_singleton]; omega)
        have HD4 := hid (RdA.grown HD3.out HO3.out.row HG4.out HLL.out (by decide))
        have HK4 := hid (Keep.grown HK3.out HO3.out.row HG4.out (Nat.le_refl _))
        rw [show (w2.alloc (.cells #[.slice da y.dec.length dc, .slice ea y.enc.length ec, .slice ra y.rows.length rc] 35)).heap.size = w2.heap.size + 1 by simp] at HRUN
        clear HO2 HD2 HK2 HO3 HD3 HK3 HG4 HM HA HB2 HB3
        rw [← em'] at HR
        have HR4 : Hid (R = lsF blM (n - (i + 1)) ((acc ++ [(⟨y, .slice da y.dec.length dc, .slice ea y.enc.length ec, .slice ra y.rows.length rc⟩ : BV)]).map BV.k) zs false) := hid (by rw [List.map_append]; exact HR.out)
        have hwr : IntKind.u64.wrap ((i : Int) + 1) = (i : Int) + 1 := by simp [IntKind.wrap, IntKind.bits, IntKind.signed]; omega
        have HE : Hid ((acc ++ [(⟨y, .slice da y.dec.length dc, .slice ea y.enc.length ec, .slice ra y.rows.length rc⟩ : BV)]).length = acc.length + 1) := hid (by simp)
        go_wp2_with (first | (at_builtin; refine wpList_append_ran rfl (.tmp 18) (.tmp 20) 22 22 rfl rfl u7 (.slice (some ⟨w2.heap.size + 1, 0, none⟩) 1 1) (.slice a (acc.length + 1) c) w4 rfl rfl HRUN.out ?_))
        exact ⟨⟨i + 1, _, zs, false, by simp, by omega, HR4, HL3, HO4, HAP, HD4, HK4⟩, by simp [numAt]; omega⟩
    · have h2 : ¬ (i : Int) < (n : Int) := by omega
      obtain rfl : i = n := by omega
      rw [Nat.sub_self, lsF] at HR
      obtain ⟨va, vc, rfl⟩ := own_shape HO.out.row
      go_wp2
      go_ret
      exact ⟨va, vc, acc, rfl, by rw [HR.out], HO.out, ⟨by rw [HR.out]; exact HD.out, HK.out⟩, HAP.out⟩
def pre16 (xs : List Int) : Bool := Lib.hasPrefix (Lib.bytesOf xs) (Lib.bytesOf [67, 84])
def rest16 (xs : List Int) : List Int := if pre16 xs = true then xs.drop 2 else xs
def piM (xs : List Int) : List BK × List Int × Bool := lsF blM (szM (rest16 xs) (!pre16 xs)).1.toNat [] (szM (rest16 xs) (!pre16 xs)).2.1 (szM (rest16 xs) (!pre16 xs)).2.2
theorem readsIn {w : World} {a : Option Addr} {len cap : Nat} {xs : List Int} (h : W.Reads w a len cap xs) : Lib.BytesIn w a len xs := fun h0 => by
  rcases h.cells with ⟨h1, _⟩ | ⟨b, off, rfl, hc⟩
  · omega
  · exact ⟨b, off, rfl, hc⟩
theorem lwMono {w : World} {base base' : Nat} {v : Value} {xs : List BV} (h : LwO w base v xs) (g : base' ≤ base) : LwO w base' v xs := ⟨own_mono h.row g, fun x hx => (h.el x hx).mono g⟩
theorem own_oth16 {w : World} {base e size n q j : Nat} {v u : Value} {fl : List Value} (h : w.ownsRow base e size v n fl) {t : TypeId} {cs : Array Value} (hq : Blk w q t cs) (ht : t ≠ e) : (w.setCell ⟨q, j, none⟩ u).ownsRow base e size v n fl :=
  own_keep (f := (· ≠ q)) h (fun k hk e => by
    obtain ⟨_, _, cur, h3⟩ := own_type h hk
    rw [e, show w.heap[q]? = _ from hq] at h3
    cases h3
    exact ht rfl) (Keep.setCell _ _ _ (fun h => h rfl))
theorem pre16_len {xs : List Int} (h : pre16 xs = true) : 2 ≤ xs.length := by
  rcases xs with _ | ⟨x, _ | ⟨y, l⟩⟩
  · revert h; decide
  · simp [pre16, Lib.hasPrefix, Lib.bytesOf] at h
  · simp
theorem cutRead {w : World} {a : Option Addr} {n c : Nat} {xs : List Int} (h : W.Reads w a n c xs) : ∃ ta n' c', Lib.trimPrefixV a n c xs [67, 84] = .slice ta n' c' ∧ W.Reads w ta n' c' (rest16 xs) ∧ ∀ x, ta = some x → ∃ y, a = some y ∧ y.block = x.block := by
  unfold rest16
  by_cases hp : pre16 xs = true
  · rw [if_pos hp]
    have hl := h.length
    have h2 := pre16_len hp
    rcases h.cells with ⟨h1, _⟩ | ⟨b, off, rfl, hc⟩
    · omega
    · have hle := h.le
      refine ⟨if c = 2 then some ⟨b, off, none⟩ else some ⟨b, off + 2, none⟩, n - 2, c - 2, ?_, ⟨by simp [hl], by omega, by have := h.max; omega, ?_, ?_⟩, ?_⟩
      · unfold pre16 at hp
        simp only [Lib.trimPrefixV, Lib.bytesTrimPrefix, hp, if_true, Lib.sliceFrom, List.length_cons, List.length_nil, Nat.zero_add, Nat.reduceAdd]
      · intro i
        have := h.bd (2 + i)
        simpa [List.getD_eq_getElem?_getD, List.getElem?_drop] using this
      · by_cases hc2 : c = 2
        · rw [if_pos hc2]
          exact .inl ⟨by omega, fun h => by cases h⟩
        · rw [if_neg hc2]
          refine .inr ⟨b, off + 2, rfl, fun i hi => ?_⟩
          have h2 := hc (2 + i) (by omega)
          have e1 : off + (2 + i) = off + 2 + i := by omega
          rw [e1] at h2
          rw [List.getD_eq_getElem?_getD, List.getElem?_drop, ← List.getD_eq_getElem?_getD]
          exact h2
      · intro x hx
        split at hx <;> (cases hx; exact ⟨_, rfl, rfl⟩)
  · rw [if_neg hp]
    refine ⟨a, n, c, ?_, h, fun x hx => ⟨x, hx, rfl⟩⟩
    unfold pre16 at hp
    unfold Lib.trimPrefixV
    split
    · rename_i heq
      cases heq
      simp only [Lib.bytesTrimPrefix, hp, if_false, Bool.false_eq_true]
    · rfl
theorem programInT (w : World) (ba : Option Addr) (bn bc : Nat) (xs : List Int) (hrb : W.Reads w ba bn bc xs) (hbb : ∀ x, ba = some x → x.block < w.heap.size) (hx : xs.length ≤ 4000000) :
    Calls Tryd.prog 12 #[.slice ba bn bc] w fun e w' => ∃ pa pc bs, e = .returned (.tuple #[.agg #[.slice pa bs.length pc], .bool (!(piM xs).2.2)]) ∧ bs.map BV.k = (piM xs).1 ∧ LwO w' w.heap.size (.slice pa bs.length pc) bs ∧ Below w.heap.size w w' ∧ ApL bs := by
  obtain ⟨a, n, c, htr, hrd, hsb⟩ := cutRead hrb
  have HBI := hid (readsIn hrb)
  have HTR := hid htr
  have HRD := hid hrd
  have HAB : Hid (∀ x, a = some x → x.block < w.heap.size) := hid (fun x hx => by obtain ⟨y, h1, h2⟩ := hsb x hx; have := hbb y h1; omega)
  have HLE := hid hrb.le
  have HLN := hid hrb.length
  have HXR : Hid ((rest16 xs).length ≤ 4000000) := hid (by unfold rest16; split <;> first | exact hx | (rw [List.length_drop]; omega))
  obtain ⟨ok, HOK⟩ : ∃ ok, Hid (pre16 xs = ok) := ⟨_, hid rfl⟩
  obtain ⟨rest, HRE⟩ : ∃ rest, Hid (rest16 xs = rest) := ⟨_, hid rfl⟩
  unfold piM
  rw [HOK.out, HRE.out]
  rw [HRE.out] at HRD HXR
  obtain ⟨R, HRR⟩ : ∃ R, Hid (R = lsF blM (szM rest (!ok)).1.toNat [] (szM rest (!ok)).2.1 (szM rest (!ok)).2.2) := ⟨_, hid rfl⟩
  rw [← HRR.out]
  have n64 : (bn : Int) ≤ 9223372036854775807 := by have h1 := hrb.le; have h2 := hrb.max; omega
  clear hrb htr hrd hsb hbb hx
  go_enter Tryd.func12, Tryd.ntmps12
  have HCV := hid (Lib.run_convert_bytes_const (P := Tryd.prog) (w.alloc (.cells #[.slice none 0 0] 24)) 25 5 #[.int .u8 67, .int .u8 84] 2 2 Tryd.underlying25 Tryd.underlying5)
  go_wp2_with fail
  rw [show w.heap.size + 1 = (w.alloc (.cells #[.slice none 0 0] 24)).heap.size by simp] at *
  rw [HCV.out]
  simp only [Result.andThen]
  rw [Oper.upon_value]
  have HB1 : Hid (Below w.heap.size w ((w.alloc (.cells #[.slice none 0 0] 24)).alloc (.cells #[.int .u8 67, .int .u8 84] 5 (2, 3)))) := hid (bl_alloc (below_alloc _) _)
  have BR : Hid (Blk ((w.alloc (.cells #[.slice none 0 0] 24)).alloc (.cells #[.int .u8 67, .int .u8 84] 5 (2, 3))) w.heap.size 24 #[.slice none 0 0]) := hid ((Blk.new _ _ _).kept (below_alloc _))
  have HM : Hid (Lib.BytesIn ((w.alloc (.cells #[.slice none 0 0] 24)).alloc (.cells #[.int .u8 67, .int .u8 84] 5 (2, 3))) (some ⟨(w.alloc (.cells #[.slice none 0 0] 24)).heap.size, 0, none⟩) 2 [67, 84]) := hid (fun _ => ⟨_, 0, rfl, fun i hi => by
    rw [cellMk]
    match i, hi with
    | 0, _ => rfl
    | 1, _ => rfl⟩)
  have HBW : Hid (Lib.BytesIn ((w.alloc (.cells #[.slice none 0 0] 24)).alloc (.cells #[.int .u8 67, .int .u8 84] 5 (2, 3))) ba bn xs) := hid (fun h => by
    obtain ⟨b', o', e', hc⟩ := HBI.out h
    exact ⟨b', o', e', fun i hi => cell_below (hc i hi) HB1.out⟩)
  simp only [List.size_toArray, List.length_cons, List.length_nil, Nat.zero_add, Nat.reduceAdd]
  clear HCV HBI
  generalize (w.alloc (.cells #[.slice none 0 0] 24)).heap.size = gm at *
  generalize (w.alloc (.cells #[.slice none 0 0] 24)).alloc (.cells #[.int .u8 67, .int .u8 84] 5 (2, 3)) = V at *
  have HCP := hid (Tryd.bytes_CutPrefix_all ba (some ⟨gm, 0, none⟩) bn bc 2 2 xs [67, 84] V HLN.out rfl HLE.out HBW.out HM.out)
  rw [HTR.out] at HCP
  have hpre : Lib.hasPrefix (Lib.bytesOf xs) (Lib.bytesOf [67, 84]) = ok := HOK.out
  rw [hpre] at HCP
  go_wp2_with fail
  refine HCP.out.mono ?_
  rintro e w1 ⟨rfl, rfl⟩
  go_wp2_with fail
  refine (allOpsV _).mono ?_
  rintro e w2 ⟨av, rfl, HA, hb2⟩
  obtain ⟨B1, HB1'⟩ : ∃ B1, Hid (B1 = rdC (.slice a n c) (!ok)) := ⟨_, hid rfl⟩
  have hbd : ∀ W0, (Instr.build 65 #[(0, av), (1, .slice a n c), (2, .bool (!ok))]).run Tryd.prog W0 = .ok (.agg B1) W0 := fun W0 => by rw [HB1'.out, HA.out]; exact rdBuild rfl a n c (!ok) W0
  have b77 : B1.size = 77 := by rw [HB1'.out, rdC_size]
  have HST : Hid (∀ W0 : World, (storeCells ⟨W0.heap.size, 0, none⟩ B1.toList 0).run Tryd.prog (W0.alloc (.cells Tryd.zeroCells65 65)) = .ok () (W0.alloc (.cells B1 65))) := hid (fun W0 => by rw [HB1'.out]; exact rdStore _ _ rfl W0)
  clear HCP HBW HM hpre HTR
  rename_i hKK
  dsimp only
  refine hKK _ _ ?_
  clear hKK
  refine wpList_ran rfl (.slice a n c) (fun K hK => by unfold Oper.wp; simpa [execOp, go_sem] using hK) ?_
  refine wpList_ran rfl (.bool ok) (fun K hK => by unfold Oper.wp; simpa [execOp, go_sem] using hK) ?_
  refine wpList_ran rfl (.bool (!ok)) (fun K hK => by unfold Oper.wp; simpa [execOp, go_sem] using hK) ?_
  simp only [Act.put, List.getElem_toArray, List.getElem_cons_succ, List.getElem_cons_zero, List.setIfInBounds_toArray, List.set_cons_zero, List.set_cons_succ]
  refine wpList_ran rfl (.agg B1) (fun K hK => by
    unfold Oper.wp
    simp [execOp, Act.eval, hbd, Result.andThen]
    exact hK) ?_
  simp only [Act.put, List.getElem_toArray, List.getElem_cons_succ, List.getElem_cons_zero, List.setIfInBounds_toArray, List.set_cons_zero, List.set_cons_succ]
  clear hbd HA
  go_wp2_with fail
  rw [HST.out]
  simp only [Result.andThen]
  rw [Oper.upon_skip]
  have HR0 : Hid (RdA (w2.alloc (.cells B1 65)) w2.heap.size w.heap.size rest (!ok)) := hid ⟨a, n, c, by rw [HB1'.out]; exact Blk.new _ _ _, W.reads_kept (W.reads_kept HRD.out (HB1.out)) (bl_alloc hb2 _), fun x hx => ⟨by have h1 := HAB.out x hx; have h2 := HB1.out.size; have h3 := hb2.size; omega, HAB.out x hx⟩⟩
  have BR2 : Hid (Blk (w2.alloc (.cells B1 65)) w.heap.size 24 #[.slice none 0 0]) := hid (BR.out.kept (bl_alloc hb2 _))
  have HB2 : Hid (Below w.heap.size w (w2.alloc (.cells B1 65))) := hid (bl_then HB1.out (bl_alloc hb2 _))
  have HP6 : Hid (w.heap.size < w2.heap.size) := hid (by have h2 := BR.out.lt; have h3 := hb2.size; omega)
  clear HST b77 HB1' hb2 BR HB1 HRD HAB
  generalize w2.alloc (.cells B1 65) = U at *
  generalize w2.heap.size = p6 at *
  obtain ⟨z, ez, bz⟩ := HR0.out.szB
  have HSL := hid (szM_le rest (!ok)).1
  go_wp2_with fail
  refine (sizeT _ _ _ _ _ HR0.out).mono ?_
  rintro e w3 ⟨rfl, hr3, hk3⟩
  have BR3 := hid (BR2.out.keep hk3 (by have := HP6.out; omega))
  have HB3 : Hid (Below w.heap.size w w3) := hid (HB2.out.trans (Keep.below hk3 HB2.out.size (fun k hk => by have := HP6.out; omega)))
  rw [ez]
  have HLB := hid (listBT w3 p6 w.heap.size _ _ hr3 HB3.out.size z bz (by have h1 := HSL.out; have h2 := HXR.out; omega))
  rw [ez, show ((z : Int)).toNat = z by simp] at HRR
  rw [← HRR.out] at HLB
  clear hk3 BR2 HB2 HR0 hr3
  go_wp2_with fail
  refine HLB.out.mono ?_
  rintro e w4 ⟨pa, pc, bs, rfl, hm, ho, ⟨hr4, hk4⟩, hap⟩
  have HAP := hid hap
  clear hap
  have BR4 := hid (BR3.out.keep hk4 (by have := HP6.out; omega))
  have HB4 : Hid (Below w.heap.size w w4) := hid (HB3.out.trans (Keep.below hk4 HB3.out.size (fun k hk => by have := HP6.out; omega)))
  have HO4 := hid (lwMono ho HB3.out.size)
  have HM4 := hid hm
  obtain ⟨r0, r1, r2, hS4⟩ := hr4
  have c76 : w4.cell? ⟨p6, 76, none⟩ = some (.bool R.2.2) := by rw [hS4.blk.cellF, rdC_76]
  have z6 := hS4.blk.lt
  clear HLB hk4 ho hm hS4 BR3 HB3 HRR
  have z0' := BR4.out.lt
  have x3 := BR4.out.cellF
  have y3 := BR4.out.frz
  have hne6 : p6 ≠ w.heap.size := by have := HP6.out; omega
  go_wp2_with fail
  have BR5 := hid (BR4.out.kept (below_alloc (w := w4) (.cells #[.slice pa bs.length pc] 24)))
  have HB5 := hid (bl_alloc HB4.out (.cells #[.slice pa bs.length pc] 24))
  have HO5 := hid (HO4.out.kept (below_alloc (w := w4) (.cells #[.slice pa bs.length pc] 24)))
  have x0 := BR5.out.cellF
  have y0 := BR5.out.frz
  have z0 := BR5.out.lt
  have x0d := (BR5.out.kept (below_drew1 _)).cellF
  have y0d := (BR5.out.kept (below_drew1 _)).frz
  have HOS : Hid (∀ V, Blk V w.heap.size 24 #[.slice none 0 0] → LwO V w.heap.size (.slice pa bs.length pc) bs → LwO (V.setCell ⟨w.heap.size, 0, none⟩ (.slice pa bs.length pc)) w.heap.size (.slice pa bs.length pc) bs) := hid (fun V hb ho => ⟨own_oth16 ho.row hb (by decide), fun x hx => ⟨own_oth16 (ho.el x hx).hd hb (by decide), own_oth16 (ho.el x hx).he hb (by decide), own_oth16 (ho.el x hx).hr hb (by decide), (ho.el x hx).ap⟩⟩)
  go_region
  all_goals go_wp2
  all_goals refine bodyPost_ret (v := .tuple #[.agg #[.slice pa bs.length pc], .bool (!R.2.2)]) (by simp [results, Tryd.results12, go_sem, x3, z0', x0, y0, z0, x0d, y0d]) rfl ⟨pa, pc, bs, rfl, HM4.out, ?_, by have := HB4.out; exact blBy, HAP.out⟩
  all_goals exact ((HOS.out w4 BR4.out HO4.out).kept (below_alloc _)).kept (below_drew1 _)
def pkB (ks : List BK) : List Int := [67, 84] ++ nvB [(ks.length : Int)] ++ ks.flatMap bkB
theorem pkB_pg (bs : List BV) : pgB bs = pkB (bs.map BV.k) := by unfold pgB pkB; rw [List.length_map, List.flatMap_map]
def rdG (xs : List Int) (vd : Bool) : Bool := !(piM xs).2.2 && (vd && Lib.bytesOf (pkB (piM xs).1) == Lib.bytesOf xs)
theorem lwProg {w : World} {base : Nat} {v : Value} {xs : List BV} (h : LwO w base v xs) : PgR w v xs := ⟨own_row h.row (fun _ _ => trivial), fun x hx => (h.el x hx).row⟩
def ProgR (w : World) (ks : List BK) (er : Int) (e : Ending) (w' : World) : Prop := ∃ a c xs, e = .returned (.tuple #[.agg #[.slice a xs.length c], .int .i64 er]) ∧ xs.map BV.k = ks ∧ LwO w' w.heap.size (.slice a xs.length c) xs ∧ Below w.heap.size w w' ∧ ApL xs
theorem readT (w : World) (ba : Option Addr) (bn bc : Nat) (xs : List Int) (hrb : W.Reads w ba bn bc xs) (hbb : ∀ x, ba = some x → x.block < w.heap.size) (hx : xs.length ≤ 4000000) (vd : Bool)
    (hv : ∀ W0 pa pc (bs : List BV), Below w.heap.size w W0 → LwO W0 w.heap.size (.slice pa bs.length pc) bs → bs.map BV.k = (piM xs).1 → Calls Tryd.prog 10 #[.agg #[.slice pa bs.length pc]] W0 fun e w' => e = .returned (.bool vd) ∧ Below W0.heap.size W0 w')
    (hw : vd = true → ∀ k ∈ (piM xs).1, BkW k) (hl : ∀ bs : List BV, bs.map BV.k = (piM xs).1 → pgN bs ≤ 140737488355328) (hbd : vd = true → ∀ x ∈ pkB (piM xs).1, 0 ≤ x ∧ x ≤ 255) :
    Calls Tryd.prog 6 #[.slice ba bn bc] w (ProgR w (if rdG xs vd = true then (piM xs).1 else []) (if rdG xs vd = true then 0 else 19)) := by
  have HRB := hid hrb
  have HPI := hid fun W0 (hW : Below w.heap.size w W0) => programInT W0 ba bn bc xs (W.reads_kept hrb hW) (fun x hx => Nat.lt_of_lt_of_le (hbb x hx) hW.size) hx
  have HV := hid hv
  have HW := hid hw
  have HL := hid hl
  have HBD := hid hbd
  obtain ⟨ks, HKS⟩ : ∃ ks, Hid ((piM xs).1 = ks) := ⟨_, hid rfl⟩
  obtain ⟨ff, HFF⟩ : ∃ ff, Hid ((piM xs).2.2 = ff) := ⟨_, hid rfl⟩
  obtain ⟨G, HG⟩ : ∃ G, Hid (rdG xs vd = G) := ⟨_, hid rfl⟩
  rw [HG.out, HKS.out]
  unfold rdG at HG
  rw [HKS.out, HFF.out] at HG
  obtain ⟨KS, HKK⟩ : ∃ KS, Hid ((if G = true then ks else []) = KS) := ⟨_, hid rfl⟩
  obtain ⟨ER, HER⟩ : ∃ ER : Int, Hid ((if G = true then 0 else 19) = ER) := ⟨_, hid rfl⟩
  rw [HKK.out, HER.out]
  have HGF : Hid (G = false → [] = KS ∧ 19 = ER) := hid (fun h => by rw [← HKK.out, ← HER.out, h]; exact ⟨rfl, rfl⟩)
  have HGT : Hid (G = true → ks = KS ∧ 0 = ER) := hid (fun h => by rw [← HKK.out, ← HER.out, h]; exact ⟨rfl, rfl⟩)
  clear HKK HER
  rw [HKS.out] at HV HW HL HBD
  rw [HKS.out, HFF.out] at HPI
  clear hrb hbb hx hv hw hl hbd
  go_enter Tryd.func6, Tryd.ntmps6
  go_wp2_with fail
  refine (HPI.out _ (below_alloc _)).mono ?_
  rintro e w1 ⟨pa, pc, bs, rfl, hm, ho, hb1, hap⟩
  have HAP := hid hap
  clear hap
  have HM := hid hm
  have BR : Hid (Blk (w1.alloc (.cells #[.slice pa bs.length pc] 24)) w.heap.size 24 #[.slice none 0 0]) := hid (((Blk.new _ _ _).kept hb1).kept (below_alloc _))
  have BP : Hid (Blk (w1.alloc (.cells #[.slice pa bs.length pc] 24)) w1.heap.size 24 #[.slice pa bs.length pc]) := hid (Blk.new _ _ _)
  have HO1 : Hid (LwO (w1.alloc (.cells #[.slice pa bs.length pc] 24)) w.heap.size (.slice pa bs.length pc) bs) := hid ((lwMono ho (by simp)).kept (below_alloc _))
  have HB1 : Hid (Below w.heap.size w (w1.alloc (.cells #[.slice pa bs.length pc] 24))) := hid (bl_alloc (bl_then (below_alloc _) hb1) _)
  have HPW : Hid (w.heap.size < w1.heap.size) := hid (by have := hb1.size; simp at this; omega)
  clear hb1 HPI ho hm
  cases ff with
  | true =>
    go_upto_region 2 with fail
    generalize w1.alloc (.cells #[.slice pa bs.length pc] 24) = V at *
    have xr := BR.out.cellF
    have yr := BR.out.frz
    have zr := BR.out.lt
    go_wp2
    exact bodyPost_ret (v := .tuple #[.agg #[.slice none 0 0], .int .i64 19]) (by simp [results, Tryd.results6, go_sem, xr, zr, yr]) rfl ⟨none, 0, [], by rw [← (HGF.out (by rw [← HG.out]; rfl)).2]; rfl, (HGF.out (by rw [← HG.out]; rfl)).1, ⟨World.ownsRow_nil _ _ _ _, fun x hx => by cases hx⟩, by have := HB1.out; exact blBy, List.Pairwise.nil⟩
  | false =>
    go_upto_region 2 with fail
    generalize w1.alloc (.cells #[.slice pa bs.length pc] 24) = V at *
    generalize w1.heap.size = p4 at *
    have x4 := BP.out.cellF
    have z4 := BP.out.lt
    go_wp2_with fail
    refine (HV.out _ _ _ _ HB1.out HO1.out HM.out).mono ?_
    rintro e w2 ⟨rfl, hb2⟩
    replace BR := hid (BR.out.kept hb2)
    replace BP := hid (BP.out.kept hb2)
    replace HO1 := hid (HO1.out.kept hb2)
    replace HB1 := hid (bl_then HB1.out hb2)
    clear hb2 x4 z4
    have x4 := BP.out.cellF
    have z4 := BP.out.lt
    cases vd with
    | false =>
      have xr := BR.out.cellF
      have yr := BR.out.frz
      have zr := BR.out.lt
      go_wp2
      exact bodyPost_ret (v := .tuple #[.agg #[.slice none 0 0], .int .i64 19]) (by simp [results, Tryd.results6, go_sem, xr, zr, yr]) rfl ⟨none, 0, [], by rw [← (HGF.out (by rw [← HG.out]; rfl)).2]; rfl, (HGF.out (by rw [← HG.out]; rfl)).1, ⟨World.ownsRow_nil _ _ _ _, fun x hx => by cases hx⟩, by have := HB1.out; exact blBy, List.Pairwise.nil⟩
    | true =>
      have HBO := hid fun W0 (hp : PgR W0 (.slice pa bs.length pc) bs) => bytesOfT W0 bs pa pc hp (fun x hx => HW.out rfl _ (by rw [← HM.out]; exact List.mem_map_of_mem hx)) (HL.out bs HM.out)
      go_wp2_with fail
      refine (HBO.out _ (lwProg HO1.out)).mono ?_
      rintro e w3 ⟨v, rfl, ho3, hb3⟩
      rw [pkB_pg, HM.out] at ho3
      obtain ⟨va, vcap, rfl, hrd⟩ := W.own_reads ho3 (HBD.out (by trivial))
      have HEQ := hid (Tryd.bytes_Equal_all va ba (pkB ks).length vcap bn bc (pkB ks) xs w3 rfl HRB.out.length (readsIn hrd) (readsIn (W.reads_kept HRB.out (bl_then HB1.out hb3))))
      replace BR := hid (BR.out.kept hb3)
      replace BP := hid (BP.out.kept hb3)
      replace HO1 := hid (HO1.out.kept hb3)
      replace HB1 := hid (bl_then HB1.out hb3)
      clear hb3 x4 z4 ho3 hrd HBO HV
      have x4 := BP.out.cellF
      have z4 := BP.out.lt
      have xr := BR.out.cellF
      have yr := BR.out.frz
      have zr := BR.out.lt
      obtain ⟨qq, HQ⟩ : ∃ qq, Hid ((Lib.bytesOf (pkB ks) == Lib.bytesOf xs) = qq) := ⟨_, hid rfl⟩
      rw [HQ.out] at HEQ
      go_wp2_with fail
      refine HEQ.out.mono ?_
      rintro e w4 ⟨rfl, rfl⟩
      cases qq with
      | false =>
        go_wp2
        exact bodyPost_ret (v := .tuple #[.agg #[.slice none 0 0], .int .i64 19]) (by simp [results, Tryd.results6, go_sem, xr, zr, yr]) rfl ⟨none, 0, [], by rw [← (HGF.out (by rw [← HG.out, HQ.out]; rfl)).2]; rfl, (HGF.out (by rw [← HG.out, HQ.out]; rfl)).1, ⟨World.ownsRow_nil _ _ _ _, fun x hx => by cases hx⟩, by have := HB1.out; exact blBy, List.Pairwise.nil⟩
      | true =>
        have HOS : Hid (LwO (w4.setCell ⟨w.heap.size, 0, none⟩ (.slice pa bs.length pc)) w.heap.size (.slice pa bs.length pc) bs) := hid ⟨own_oth16 HO1.out.row BR.out (by decide), fun x hx => ⟨own_oth16 (HO1.out.el x hx).hd BR.out (by decide), own_oth16 (HO1.out.el x hx).he BR.out (by decide), own_oth16 (HO1.out.el x hx).hr BR.out (by decide), (HO1.out.el x hx).ap⟩⟩
        go_wp2
        exact bodyPost_ret (v := .tuple #[.agg #[.slice pa bs.length pc], .int .i64 0]) (by simp [results, Tryd.results6, go_sem, xr, zr, yr]) rfl ⟨pa, pc, bs, by rw [← (HGT.out (by rw [← HG.out, HQ.out]; rfl)).2], HM.out.trans (HGT.out (by rw [← HG.out, HQ.out]; rfl)).1, HOS.out, by have := HB1.out; exact blBy, HAP.out⟩
theorem nvB_bd {ns : List Int} (h : ∀ n ∈ ns, 0 ≤ n ∧ n < 18446744073709551616) : ∀ x ∈ nvB ns, 0 ≤ x ∧ x ≤ 255 := by
  intro x hx
  obtain ⟨n, hn, hx⟩ := List.mem_flatMap.1 hx
  exact W.pv_bd (h n hn).1 (h n hn).2 x hx
theorem st1_bd {s : IN} (h : InW s) : ∀ x ∈ st1 s, 0 ≤ x ∧ x ≤ 255 := by
  intro x hx
  have ho := h.op
  rcases List.mem_cons.1 hx with rfl | hx
  · omega
  · refine nvB_bd (fun n hn => ?_) x hx
    have := h.n n (List.mem_of_mem_take hn)
    omega
theorem bkB_bd {k : BK} (h : BkW k) (hn : bkN k ≤ 140737488355328) : ∀ x ∈ bkB k, 0 ≤ x ∧ x ≤ 255 := by
  intro x hx
  unfold bkN at hn
  unfold bkB at hx
  rcases List.mem_append.1 hx with hx | hx
  · rcases List.mem_append.1 hx with hx | hx
    · rcases List.mem_append.1 hx with hx | hx
      · refine nvB_bd (fun n hm => ?_) x hx
        simp at hm
        omega
      · obtain ⟨s, hs, hx⟩ := List.mem_flatMap.1 hx
        exact st1_bd (h.dec s hs) x hx
    · obtain ⟨s, hs, hx⟩ := List.mem_flatMap.1 hx
      exact st1_bd (h.enc s hs) x hx
  · obtain ⟨r, hr, hx⟩ := List.mem_flatMap.1 hx
    refine nvB_bd (fun n hm => ?_) x hx
    have := h.rows r hr
    simp at hm
    omega
theorem pgN_mem : ∀ (bs : List BV) (x : BV), x ∈ bs → bkN x.k ≤ pgN bs
  | [], _, h => by cases h
  | y :: l, x, h => by
    rw [pgN]
    rcases List.mem_cons.1 h with rfl | h
    · omega
    · have := pgN_mem l x h
      omega
theorem pgN_len : ∀ bs : List BV, bs.length ≤ pgN bs
  | [] => by simp
  | y :: l => by
    have := pgN_len l
    rw [pgN, List.length_cons]
    unfold bkN
    omega
theorem pgB_bd {bs : List BV} (h : ∀ x ∈ bs, BkW x.k) (hn : pgN bs ≤ 140737488355328) : ∀ x ∈ pgB bs, 0 ≤ x ∧ x ≤ 255 := by
  intro x hx
  have hl := pgN_len bs
  unfold pgB at hx
  rcases List.mem_append.1 hx with hx | hx
  · rcases List.mem_append.1 hx with hx | hx
    · simp at hx
      omega
    · refine nvB_bd (fun n hm => ?_) x hx
      simp at hm
      omega
  · obtain ⟨y, hy, hx⟩ := List.mem_flatMap.1 hx
    exact bkB_bd (h y hy) (Nat.le_trans (pgN_mem bs y hy) hn) x hx
def keyV (k : BK) : BV := ⟨k, .slice none 0 0, .slice none 0 0, .slice none 0 0⟩
theorem keyV_map (ks : List BK) : (ks.map keyV).map BV.k = ks := by
  rw [List.map_map]
  exact (List.map_congr_left (fun k _ => rfl)).trans (List.map_id ks)
theorem pkB_bd {ks : List BK} (h : ∀ k ∈ ks, BkW k) (hn : pgN (ks.map keyV) ≤ 140737488355328) : ∀ x ∈ pkB ks, 0 ≤ x ∧ x ≤ 255 := by
  have := pgB_bd (bs := ks.map keyV) (fun x hx => by
    obtain ⟨k, hk, rfl⟩ := List.mem_map.1 hx
    exact h k hk) hn
  rw [pkB_pg, keyV_map] at this
  exact this
end Go.Proofs.YtpndejibjiojbaaDoor
