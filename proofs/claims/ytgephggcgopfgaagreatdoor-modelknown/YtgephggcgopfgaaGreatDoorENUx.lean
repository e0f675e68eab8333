/-
  What a field takes an entry as: what the program answers.
  Those of a list that are so; whether all are so; the first one that is so.
  Depth, Get: what the document answers.
  The messages of a field, one by one, where what is done with them writes.
  What stays of a typed message.
  What stays of a typed message: its lists; whether all stays.
-/
import Derived.Test.YtgephggcgopfgaaGreatDoorCTA
import Derived.Test.YtgephggcgopfgaaGreatDoorCTG
import Derived.Test.YtgephggcgopfgaaGreatDoorCAA
import Derived.Test.YtgephggcgopfgaaGreatDoorCAG
import Derived.Test.YtgephggcgopfgaaGreatDoorShelf
import Derived.Test.YtgephggcgopfgaaGreatDoorCTP
import Derived.Test.YtgephggcgopfgaaGreatDoorCTY
import Derived.Test.YtgephggcgopfgaaGreatDoorCAP
import Derived.Test.YtgephggcgopfgaaGreatDoorCB
import Derived.Test.YtgephggcgopfgaaGreatDoorCCC
import Derived.Test.YtgephggcgopfgaaGreatDoorCCE
import Derived.Test.YtgephggcgopfgaaGreatDoorCAW
import Derived.Test.YtgephggcgopfgaaGreatDoorCAO
import Derived.Test.YtgephggcgopfgaaGreatDoorCBE
import Derived.Test.YtgephggcgopfgaaGreatDoorCw8WO
import Derived.Test.YtgephggcgopfgaaGreatDoorCCH
import Derived.Test.YtgephggcgopfgaaGreatDoorCND
import Derived.Test.YtgephggcgopfgaaGreatDoorCNA2
import Derived.Test.YtgephggcgopfgaaGreatDoorNF
import Derived.Test.YtgephggcgopfgaaGreatDoorCNG
import Derived.Test.YtgephggcgopfgaaGreatDoorCI
import Derived.Test.YtgephggcgopfgaaGreatDoorCCJ
namespace Go.Proofs.YtgephggcgopfgaaGreatDoor
open Go.RowKit
set_option maxRecDepth 1000000
set_option linter.unusedVariables false
set_option linter.unusedSimpArgs false
set_option maxHeartbeats 1000000
def rowsF (f : FT) : Bool := decide (f.lab = 2 ∨ f.lab = 3) && knum f.kind
theorem beq_dec (a b : Int) : (a == b) = decide (a = b) := by by_cases h : a = b <;> simp [h]
/-- Does it take entries of a wire kind as values, as rows? -/
def tvF (f : FT) (k : Int) : Bool := if f.lab = 5 then decide (k = 2) else (decide (kwireE f.kind = 0) && decide (k = max (kwire f.kind) 0))
def trF (f : FT) (k : Int) : Bool := rowsF f && decide (k = 2)
section
variable (f : FT) (w : World)
theorem takesValueT (k : Int) : Calls Tryz.prog 119 #[.agg #[.string (strOfNums f.name), .int .i64 f.num, .int .i64 f.kind, .int .i64 f.ref, .int .i64 f.lab, .int .i64 f.one, .int .i64 f.key], .int .i64 k] w fun e w' => e = .returned (.bool (tvF f k)) ∧ Below w.heap.size w w' := by
  have HK := hid (wireKW f.kind)
  have HX : Hid (tvF f k = if f.lab = 5 then decide (k = 2) else (decide (kwireE f.kind = 0) && decide (k = max (kwire f.kind) 0))) := hid rfl
  generalize tvF f k = res at *
  by_cases h : f.lab = 5
  · have k5 : (f.lab == 5) = true := by simpa using h
    rw [if_pos h] at HX
    replace h := hid h
    go_enter Tryz.func119, Tryz.ntmps119
    go_wp2
    go_ret
    exact ⟨ret_bool (by rw [HX.out]; exact beq_dec k 2), by exact blBy⟩
  · have k5 : (f.lab == 5) = false := by simpa using h
    rw [if_neg h] at HX
    replace h := hid h
    generalize max (kwire f.kind) 0 = kw at *
    generalize kwireE f.kind = ke at *
    by_cases h0 : ke = 0
    · have k0 : (ke == 0) = true := by simpa using h0
      rw [decide_eq_true h0, Bool.true_and] at HX
      replace h0 := hid h0
      go_enter Tryz.func119, Tryz.ntmps119
      go_wp2_with (first | (go_at_call 143; refine (HK.out _).mono ?_; rintro e w1 ⟨rfl, rfl⟩))
      go_ret
      exact ⟨ret_bool (by rw [HX.out]; exact beq_dec k kw), by exact blBy⟩
    · have k0 : (ke == 0) = false := by simpa using h0
      rw [decide_eq_false h0, Bool.false_and] at HX
      replace h0 := hid h0
      go_enter Tryz.func119, Tryz.ntmps119
      go_wp2_with (first | (go_at_call 143; refine (HK.out _).mono ?_; rintro e w1 ⟨rfl, rfl⟩))
      go_ret
      exact ⟨ret_bool HX.out.symm, by exact blBy⟩
theorem takesRowT (k : Int) : Calls Tryz.prog 120 #[.agg #[.string (strOfNums f.name), .int .i64 f.num, .int .i64 f.kind, .int .i64 f.ref, .int .i64 f.lab, .int .i64 f.one, .int .i64 f.key], .int .i64 k] w fun e w' => e = .returned (.bool (trF f k)) ∧ Below w.heap.size w w' := by
  have HK := hid (numericW f.kind)
  have HX : Hid (trF f k = ((decide (f.lab = 2 ∨ f.lab = 3) && knum f.kind) && decide (k = 2))) := hid rfl
  generalize knum f.kind = kn at *
  generalize trF f k = res at *
  by_cases h2 : f.lab = 2
  · have k2 : (f.lab == 2) = true := by simpa using h2
    rw [decide_eq_true (.inl h2), Bool.true_and] at HX
    replace h2 := hid h2
    cases kn <;>
    · go_enter Tryz.func120, Tryz.ntmps120
      go_wp2_with (first | (go_at_call 144; refine (HK.out _).mono ?_; rintro e w1 ⟨rfl, rfl⟩))
      go_ret
      exact ⟨ret_bool (by rw [HX.out]; simp [beq_dec]), by exact blBy⟩
  · have k2 : (f.lab == 2) = false := by simpa using h2
    by_cases h3 : f.lab = 3
    · have k3 : (f.lab == 3) = true := by simpa using h3
      rw [decide_eq_true (.inr h3), Bool.true_and] at HX
      replace h2 := hid h2
      replace h3 := hid h3
      cases kn <;>
      · go_enter Tryz.func120, Tryz.ntmps120
        go_wp2_with (first | (go_at_call 144; refine (HK.out _).mono ?_; rintro e w1 ⟨rfl, rfl⟩))
        go_ret
        exact ⟨ret_bool (by rw [HX.out]; simp [beq_dec]), by exact blBy⟩
    · have k3 : (f.lab == 3) = false := by simpa using h3
      rw [decide_eq_false (by omega), Bool.false_and, Bool.false_and] at HX
      replace h2 := hid h2
      replace h3 := hid h3
      go_enter Tryz.func120, Tryz.ntmps120
      go_wp2
      go_ret
      exact ⟨ret_bool HX.out.symm, by exact blBy⟩
end
end Go.Proofs.YtgephggcgopfgaaGreatDoor
namespace Go.Proofs.YtgephggcgopfgaaGreatDoor
open Go.RowKit
set_option maxRecDepth 1000000
set_option linter.unusedVariables false
set_option linter.unusedSimpArgs false
set_option maxHeartbeats 1000000
theorem chosenF (w : World) (Z : Nat → Prop) (d : Nat) (xs : List (CF CM)) (a : Option Addr) (c : Nat) (h : FlsR w Z d (.slice a xs.length c) xs) (fn : FuncId) (caps : Array Value) (hcf : ∀ (args : Array Value) (W : World), (callFunc fn args).run Tryz.prog W = .ok (.enter fn args) W) (P : CF CM → Bool)
    (hf : ∀ (W : World), Below w.heap.size w W → ∀ (cs : List Value) (x : CF CM), x ∈ xs → FmF d W Z cs x → Calls Tryz.prog fn (#[.agg cs.toArray] ++ caps) W fun e w' => e = .returned (.bool (P x)) ∧ Below W.heap.size W w') : Calls Tryz.prog 66 #[.slice a xs.length c, .func (.func fn) #[] caps] w fun e w' => ∃ a' c', e = .returned (.slice a' (xs.filter P).length c') ∧ RowM w' (fun b => Z b ∨ w.heap.size ≤ b) 3 (FmF d w' (fun b => Z b ∨ w.heap.size ≤ b)) (.slice a' (xs.filter P).length c') (xs.filter P) ∧ Below w.heap.size w w' := by
  obtain ⟨_, _, e1, l1⟩ := RowM.sl h
  clear e1
  have m1 : (xs.length : Int) ≤ 9223372036854775807 := by omega
  have H1 := hid h
  have HF := hid hf
  clear h hf
  go_enter Tryz.func66, Tryz.ntmps66
  go_wp2
  go_loopw [5, 10] (fun s5 s10 wr => ∃ (j n : Nat) (oa : Option Addr) (oc : Nat), s5 = .slice oa n oc ∧ s10 = .int .i64 j ∧ j ≤ xs.length ∧ Hid (((xs.take j).filter P).length = n) ∧ Hid (OwnA wr w.heap.size Z 29 3 (FmF d) (.slice oa n oc) ((xs.take j).filter P)) ∧ Hid (Below w.heap.size w wr)) (fun s5 s10 wr => xs.length - numAt wr s10)
  case atStart => exact ⟨0, 0, none, 0, rfl, rfl, by omega, hid rfl, hid (OwnA.nil _ _ _ _ _ _), hid (Below.refl _ _)⟩
  case round =>
    obtain ⟨j, n, oa, oc, rfl, rfl, hj, HLN, HO, hb⟩ := hrel
    by_cases hlt : j < xs.length
    · have k2 : (j : Int) < (xs.length : Int) := by omega
      obtain ⟨b1, o1, ka1, kc1, va1, vc1, rfl, -, hb1, c0, c1, c2, he⟩ := fls_at H1.out hlt
      have HE := hid he
      have HTK : Hid ((xs.take (j + 1)).filter P = (xs.take j).filter P ++ (if P xs[j] = true then [xs[j]] else [])) := hid (by rw [List.take_succ_eq_append_getElem hlt, List.filter_append]; simp only [List.filter_cons, List.filter_nil])
      have HME := hid (List.getElem_mem hlt)
      have HLB : Hid (n ≤ 4000000) := hid (by rw [← HLN.out]; exact fl_len l1 j)
      replace c0 := cell_below c0 hb.out
      replace c1 := cell_below c1 hb.out
      replace c2 := cell_below c2 hb.out
      replace hb1 : b1 < wr.heap.size := World.block_lt_of_cell? _ _ c0
      clear he
      generalize xs[j] = x at *
      go_wp2_with fail
      refine (HF.out _ (by have := hb.out; exact blBy) [.int .i64 x.num, .slice ka1 x.ks.length kc1, .slice va1 x.vs.length vc1] x HME.out (Fam.go (famF d) HE.out (keepT (by have := hb.out; exact blBy)) (fun _ _ => trivial) (fun _ h => h))).mono ?_
      rintro e w1 ⟨rfl, hbx⟩
      have Bx : Blk w1 wr.heap.size 29 #[.int .i64 x.num, .slice ka1 x.ks.length kc1, .slice va1 x.vs.length vc1] := (Blk.new _ _ _).kept hbx
      have HO1 := hid (HO.out.kept (famF d) (below_trans (below_alloc _) hbx))
      have hbw : Hid (Below w.heap.size w w1) := hid (bl_then (by have := hb.out; exact blBy) hbx)
      clear hbx HO c0 c1 c2
      cases hq : P x with
      | false =>
        rw [hq, if_neg (by simp), List.append_nil] at HTK
        go_wp2
        exact ⟨⟨j + 1, n, oa, oc, rfl, by simp, by omega, hid (by rw [HTK.out]; exact HLN.out), hid (by rw [HTK.out]; exact HO1.out), hbw⟩, by simp [numAt]; omega⟩
      | true =>
        rw [hq, if_pos rfl] at HTK
        have HZ : Hid (FmF d w1 (ZofA w1 Z (.slice oa n oc)) [.int .i64 x.num, .slice ka1 x.ks.length kc1, .slice va1 x.vs.length vc1] x) := hid (zofA_old (famF d) HO1.out HE.out hbw.out)
        obtain ⟨la, lc, x1, HRUN, HO2, HG⟩ := OwnA.push (famF d) 29 32 56 (.agg #[.int .i64 0, .slice none 0 0, .slice none 0 0]) Tryz.underlying32 Tryz.infoF rfl (by decide) (by decide) HO1.out HZ.out hbw.out.size (by rw [HLN.out]; exact HLB.out)
        rw [HLN.out] at HRUN HO2 HG
        have hb2 : Hid (Below w.heap.size w x1) := hid (hbw.out.trans (HO1.out.bel HG.out (Nat.le_refl _) hbw.out.size))
        have xx := Bx.cellF
        have zx := Bx.lt
        go_wp2_with (first | (at_builtin; refine wpList_append_ran rfl _ _ 32 32 rfl rfl _ _ (.slice la (n + 1) lc) x1 rfl rfl HRUN.out ?_))
        exact ⟨⟨j + 1, n + 1, la, lc, rfl, by simp, by omega, hid (by rw [HTK.out, List.length_append, HLN.out]; rfl), hid (by rw [HTK.out]; exact HO2.out), hb2⟩, by simp [numAt]; omega⟩
    · have k2 : ¬ (j : Int) < (xs.length : Int) := by omega
      have e1 : xs.take j = xs := List.take_of_length_le (by omega)
      rw [e1] at HO HLN
      have HRW := hid (HO.out.row (famF d) (fl_le l1))
      rw [← HLN.out] at HRW ⊢
      clear e1 HLN HO
      go_wp2
      go_ret
      exact ⟨oa, oc, rfl, HRW.out, hb.out⟩
theorem chosenE (w : World) (Z : Nat → Prop) (xs : List (CE)) (a : Option Addr) (c : Nat) (h : EnsR w Z (.slice a xs.length c) xs) (fn : FuncId) (caps : Array Value) (hcf : ∀ (args : Array Value) (W : World), (callFunc fn args).run Tryz.prog W = .ok (.enter fn args) W) (P : CE → Bool)
    (hf : ∀ (W : World), Below w.heap.size w W → ∀ (cs : List Value) (x : CE), x ∈ xs → FmE W Z cs x → Calls Tryz.prog fn (#[.agg cs.toArray] ++ caps) W fun e w' => e = .returned (.bool (P x)) ∧ Below W.heap.size W w') : Calls Tryz.prog 88 #[.slice a xs.length c, .func (.func fn) #[] caps] w fun e w' => ∃ a' c', e = .returned (.slice a' (xs.filter P).length c') ∧ RowM w' (fun b => Z b ∨ w.heap.size ≤ b) 4 (FmE w' (fun b => Z b ∨ w.heap.size ≤ b)) (.slice a' (xs.filter P).length c') (xs.filter P) ∧ Below w.heap.size w w' := by
  obtain ⟨_, _, e1, l1⟩ := RowM.sl h
  clear e1
  have m1 : (xs.length : Int) ≤ 9223372036854775807 := by omega
  have H1 := hid h
  have HF := hid hf
  clear h hf
  go_enter Tryz.func88, Tryz.ntmps88
  go_wp2
  go_loopw [5, 10] (fun s5 s10 wr => ∃ (j n : Nat) (oa : Option Addr) (oc : Nat), s5 = .slice oa n oc ∧ s10 = .int .i64 j ∧ j ≤ xs.length ∧ Hid (((xs.take j).filter P).length = n) ∧ Hid (OwnA wr w.heap.size Z 40 4 (FmE) (.slice oa n oc) ((xs.take j).filter P)) ∧ Hid (Below w.heap.size w wr)) (fun s5 s10 wr => xs.length - numAt wr s10)
  case atStart => exact ⟨0, 0, none, 0, rfl, rfl, by omega, hid rfl, hid (OwnA.nil _ _ _ _ _ _), hid (Below.refl _ _)⟩
  case round =>
    obtain ⟨j, n, oa, oc, rfl, rfl, hj, HLN, HO, hb⟩ := hrel
    by_cases hlt : j < xs.length
    · have k2 : (j : Int) < (xs.length : Int) := by omega
      obtain ⟨b1, o1, ka1, kc1, rfl, -, hb1, c0, c1, c2, c3, he⟩ := ens_at H1.out hlt
      have HE := hid he
      have HTK : Hid ((xs.take (j + 1)).filter P = (xs.take j).filter P ++ (if P xs[j] = true then [xs[j]] else [])) := hid (by rw [List.take_succ_eq_append_getElem hlt, List.filter_append]; simp only [List.filter_cons, List.filter_nil])
      have HME := hid (List.getElem_mem hlt)
      have HLB : Hid (n ≤ 4000000) := hid (by rw [← HLN.out]; exact fl_len l1 j)
      replace c0 := cell_below c0 hb.out
      replace c1 := cell_below c1 hb.out
      replace c2 := cell_below c2 hb.out
      replace c3 := cell_below c3 hb.out
      replace hb1 : b1 < wr.heap.size := World.block_lt_of_cell? _ _ c0
      clear he
      generalize xs[j] = x at *
      go_wp2_with fail
      refine (HF.out _ (by have := hb.out; exact blBy) [.int .i64 x.num, .int .i64 x.kind, .int .u64 x.n, .slice ka1 x.b.length kc1] x HME.out (Fam.go (famE) HE.out (keepT (by have := hb.out; exact blBy)) (fun _ _ => trivial) (fun _ h => h))).mono ?_
      rintro e w1 ⟨rfl, hbx⟩
      have Bx : Blk w1 wr.heap.size 40 #[.int .i64 x.num, .int .i64 x.kind, .int .u64 x.n, .slice ka1 x.b.length kc1] := (Blk.new _ _ _).kept hbx
      have HO1 := hid (HO.out.kept (famE) (below_trans (below_alloc _) hbx))
      have hbw : Hid (Below w.heap.size w w1) := hid (bl_then (by have := hb.out; exact blBy) hbx)
      clear hbx HO c0 c1 c2 c3
      cases hq : P x with
      | false =>
        rw [hq, if_neg (by simp), List.append_nil] at HTK
        go_wp2
        exact ⟨⟨j + 1, n, oa, oc, rfl, by simp, by omega, hid (by rw [HTK.out]; exact HLN.out), hid (by rw [HTK.out]; exact HO1.out), hbw⟩, by simp [numAt]; omega⟩
      | true =>
        rw [hq, if_pos rfl] at HTK
        have HZ : Hid (FmE w1 (ZofA w1 Z (.slice oa n oc)) [.int .i64 x.num, .int .i64 x.kind, .int .u64 x.n, .slice ka1 x.b.length kc1] x) := hid (zofA_old (famE) HO1.out HE.out hbw.out)
        obtain ⟨la, lc, x1, HRUN, HO2, HG⟩ := OwnA.push (famE) 40 33 48 (.agg #[.int .i64 0, .int .i64 0, .int .u64 0, .slice none 0 0]) Tryz.underlying33 Tryz.infoE rfl (by decide) (by decide) HO1.out HZ.out hbw.out.size (by rw [HLN.out]; exact HLB.out)
        rw [HLN.out] at HRUN HO2 HG
        have hb2 : Hid (Below w.heap.size w x1) := hid (hbw.out.trans (HO1.out.bel HG.out (Nat.le_refl _) hbw.out.size))
        have xx := Bx.cellF
        have zx := Bx.lt
        go_wp2_with (first | (at_builtin; refine wpList_append_ran rfl _ _ 33 33 rfl rfl _ _ (.slice la (n + 1) lc) x1 rfl rfl HRUN.out ?_))
        exact ⟨⟨j + 1, n + 1, la, lc, rfl, by simp, by omega, hid (by rw [HTK.out, List.length_append, HLN.out]; rfl), hid (by rw [HTK.out]; exact HO2.out), hb2⟩, by simp [numAt]; omega⟩
    · have k2 : ¬ (j : Int) < (xs.length : Int) := by omega
      have e1 : xs.take j = xs := List.take_of_length_le (by omega)
      rw [e1] at HO HLN
      have HRW := hid (HO.out.row (famE) (fl_le l1))
      rw [← HLN.out] at HRW ⊢
      clear e1 HLN HO
      go_wp2
      go_ret
      exact ⟨oa, oc, rfl, HRW.out, hb.out⟩
end Go.Proofs.YtgephggcgopfgaaGreatDoor
namespace Go.Proofs.YtgephggcgopfgaaGreatDoor
open Go.RowKit
set_option maxRecDepth 1000000
set_option linter.unusedVariables false
set_option linter.unusedSimpArgs false
set_option maxHeartbeats 2000000
/-- The greatest of a list, and of a number. -/
def mxL {α : Type} (f : α → Nat) (a : Nat) (l : List α) : Nat := l.foldl (fun a x => max a (f x)) a
def depVs (dm : CM → Nat) (a : Nat) (l : List (CV CM)) : Nat := l.foldl (fun a v => mxL dm a v.ms) a
/-- How deep, so far down. -/
def depM : Nat → CM → Nat
  | 0, _ => 0
  | d + 1, m => m.fs.foldl (fun a f => max (max a (depVs (depM d) 0 f.ks)) (depVs (depM d) 0 f.vs)) 0 + 1
theorem mxL_le {α : Type} {f : α → Nat} {b : Nat} : ∀ {l : List α} {a : Nat}, a ≤ b → (∀ x ∈ l, f x ≤ b) → mxL f a l ≤ b
  | [], a, ha, _ => ha
  | x :: r, a, ha, h => by
    show mxL f (max a (f x)) r ≤ b
    exact mxL_le (Nat.max_le.2 ⟨ha, h x List.mem_cons_self⟩) (fun y hy => h y (List.mem_cons_of_mem _ hy))
theorem depVs_le {dm : CM → Nat} {b : Nat} (hd : ∀ m, dm m ≤ b) : ∀ {l : List (CV CM)} {a : Nat}, a ≤ b → depVs dm a l ≤ b
  | [], a, ha => ha
  | v :: r, a, ha => by
    show depVs dm (mxL dm a v.ms) r ≤ b
    exact depVs_le hd (mxL_le ha (fun m _ => hd m))
theorem depFs_le {dm : CM → Nat} {b : Nat} (hd : ∀ m, dm m ≤ b) : ∀ {l : List (CF CM)} {a : Nat}, a ≤ b → l.foldl (fun a f => max (max a (depVs dm 0 f.ks)) (depVs dm 0 f.vs)) a ≤ b
  | [], a, ha => ha
  | f :: r, a, ha => by
    rw [List.foldl_cons]
    exact depFs_le hd (Nat.max_le.2 ⟨Nat.max_le.2 ⟨ha, depVs_le hd (Nat.zero_le _)⟩, depVs_le hd (Nat.zero_le _)⟩)
theorem depM_le : ∀ (d : Nat) (m : CM), depM d m ≤ d
  | 0, _ => Nat.le_refl _
  | d + 1, m => by
    unfold depM
    exact Nat.succ_le_succ (depFs_le (depM_le d) (Nat.zero_le _))
end Go.Proofs.YtgephggcgopfgaaGreatDoor
namespace Go.Proofs.YtgephggcgopfgaaGreatDoor
open Go.RowKit Go.Shelf
set_option maxRecDepth 1000000
attribute [local go_sem] Oper.semAt_some
set_option linter.unusedVariables false
set_option linter.unusedSimpArgs false
set_option maxHeartbeats 2000000
theorem kpBl {f : Nat → Prop} {w W W' : World} (h : Keep f w W) (g : Below W.heap.size W W') : Keep f w W' := h.trans (Keep.ofBelow g)
theorem keepK_t {f : Nat → Prop} {A B C : World} (h : Keep f A B) (k : Keep f B C) : Keep f A C := h.trans k
theorem keepK_b {w : World} {p : Nat} (hp : p < w.heap.size) (W : World) (l : Nat) (o o' : Obj) (hl : w.heap.size ≤ l) (h : W.heap[l]? = some o) (h1 : o.isCells = false) (h2 : o.isWalk = false) : Keep (fun k => k < w.heap.size ∧ k ≠ p) W (W.putObj l o') := ⟨rfl, rfl, rfl, by simp [World.putObj], fun k _ hf => by simp [World.putObj, Array.getElem?_setIfInBounds]; omega⟩
theorem msgsOf_inK (f : Nat → Prop) (w : World) (Z : Nat → Prop) (d : Nat) (n : Nat) (hn : 1 ≤ n) (p : Nat) (x : CF CM) (ka va : Option Addr) (kc vc : Nat) (hp : Blk w p 29 #[.int .i64 x.num, .slice ka x.ks.length kc, .slice va x.vs.length vc]) (hZf : ∀ k, Z k → f k) (h1 : VlsR w Z d (.slice ka x.ks.length kc) x.ks) (h2 : VlsR w Z d (.slice va x.vs.length vc) x.vs) :
    SeqStopsK Fence.wide n Tryz.prog 122 #[.pointer (some ⟨p, 0, none⟩)] (encM (w := w) (Z := Z) (d := d) (L := allM x)) (Keep f) (fun xs => xs.map (fun y => y.1.2) = allM x) (fun xs => xs.map (fun y => y.1.2) <+: allM x) (allM x).length w := by
  intro l J Jx W hW hJ hJx hY h0
  have H1 := hid h1
  have H2 := hid h2
  have HJ := hid hJ
  have HY := hid hY
  have HW := hid hW
  have Bp := hp.kept hW
  have xp := Bp.cellF
  have zp := Bp.lt
  clear h1 h2 hp hJ hJx hY hW Bp
  refine callsIn_of_wp Tryz.func122 rfl trivial ?_ rfl
  simp only [Tryz.ntmps122, List.size_toArray, List.length_cons, List.length_nil, Nat.reduceAdd, Nat.reduceSub, Array.replicate_succ, Array.replicate_zero, List.push_toArray, List.append_toArray, List.nil_append, List.cons_append]
  gi_wp2
  gi_loopw [14] (fun s wr => ∃ (i : Nat) (pre : List (XM w Z d (allM x))), s = .int .i64 i ∧ i ≤ 2 ∧ Hid (pre.map (fun y => y.1.2) = (([x.ks, x.vs] : List (List (CV CM))).take i).flatMap (fun l => l.flatMap CV.ms)) ∧ Hid (J pre wr) ∧ Hid (Keep f w wr)) (fun s _ => 2 - (intOf s).toNat)
  case atStart => exact ⟨0, [], rfl, by omega, hid rfl, hid h0, hid (Keep.ofBelow HW.out)⟩
  case round =>
    obtain ⟨i, pre, rfl, hi, HP, HJ0, hb⟩ := hrel
    by_cases hlt : i < 2
    · have k0 : (i : Int) < 2 := by omega
      obtain ⟨xs, la, lc, P0, R0, hidx, HV, HP0, HAL, HNX⟩ : ∃ (xs : List (CV CM)) (la : Option Addr) (lc : Nat) (P0 R0 : List CM), (∀ W, (Instr.index 149 (.agg #[.slice ka x.ks.length kc, .slice va x.vs.length vc]) (.int .i64 (i : Int))).run Tryz.prog W = .ok (.slice la xs.length lc) W) ∧ Hid (VlsR w Z d (.slice la xs.length lc) xs) ∧ Hid (pre.map (fun y => y.1.2) = P0) ∧ Hid (allM x = P0 ++ (xs.flatMap CV.ms ++ R0)) ∧ Hid ((([x.ks, x.vs] : List (List (CV CM))).take (i + 1)).flatMap (fun l => l.flatMap CV.ms) = P0 ++ xs.flatMap CV.ms) := by
        have ei : i = 0 ∨ i = 1 := by omega
        rcases ei with rfl | rfl
        · exact ⟨x.ks, ka, kc, [], x.vs.flatMap CV.ms, fun W => by rfl, H1, hid (by rw [HP.out]; rfl), hid rfl, hid (by simp)⟩
        · exact ⟨x.vs, va, vc, x.ks.flatMap CV.ms, [], fun W => by rfl, H2, hid (by rw [HP.out]; simp), hid (by unfold allM; simp), hid (by simp)⟩
      obtain ⟨_, _, e1, l1⟩ := RowM.sl HV.out
      clear e1
      have m1 : (xs.length : Int) ≤ 9223372036854775807 := by omega
      clear HP
      gi_wp2
      gi_loopw [19] (fun s wr => ∃ (j : Nat) (pre : List (XM w Z d (allM x))), s = .int .i64 j ∧ j ≤ xs.length ∧ Hid (pre.map (fun y => y.1.2) = P0 ++ (xs.take j).flatMap CV.ms) ∧ Hid (J pre wr) ∧ Hid (Keep f w wr)) (fun s _ => xs.length - (intOf s).toNat)
      case atStart => exact ⟨0, pre, rfl, by omega, hid (by rw [HP0.out]; simp), HJ0, hb⟩
      case round =>
        clear HJ0 hb
        obtain ⟨j, pre, rfl, hj, HP, HJ0, hb⟩ := hrel
        by_cases hjl : j < xs.length
        · have k1 : (j : Int) < (xs.length : Int) := by omega
          obtain ⟨b1, o1, ba1, bc1, ma1, mc1, rfl, hz1, hb1, c0, c1, c2, he⟩ := vls_at HV.out hjl
          obtain ⟨_, _, _, _, e1, -, q1, -, ml1, -⟩ := val_open he
          simp only [List.cons.injEq, Value.slice.injEq, true_and, and_true] at e1
          obtain ⟨⟨rfl, rfl⟩, rfl, rfl⟩ := e1
          have Q := hid q1
          have HSP := hid (fun k (hk : k < xs[j].ms.length) => flat_split hjl hk)
          have HNJ := hid (flat_next hjl)
          replace c0 := cell_kp c0 hb.out (hZf _ hz1)
          replace c1 := cell_kp c1 hb.out (hZf _ hz1)
          replace c2 := cell_kp c2 hb.out (hZf _ hz1)
          replace hb1 : b1 < wr.heap.size := World.block_lt_of_cell? _ _ c0
          clear he q1
          generalize xs[j] = v at *
          have ml3 : (v.ms.length : Int) ≤ 9223372036854775807 := by omega
          gi_wp2
          gi_loopw [26] (fun s wr => ∃ (k : Nat) (pre : List (XM w Z d (allM x))), s = .int .i64 k ∧ k ≤ v.ms.length ∧ Hid (pre.map (fun y => y.1.2) = P0 ++ ((xs.take j).flatMap CV.ms ++ v.ms.take k)) ∧ Hid (J pre wr) ∧ Hid (Keep f w wr)) (fun s _ => v.ms.length - (intOf s).toNat)
          case atStart => exact ⟨0, pre, rfl, by omega, hid (by rw [HP.out]; simp), hid (abide_alloc HJ.out HJ0.out _), hid (kpBl hb.out (by exact blBy))⟩
          case round =>
            clear HJ0 hb HP c0 c1 c2 hb1
            obtain ⟨k, pre, rfl, hk, HP, HJ0, hb⟩ := hrel
            by_cases hkl : k < v.ms.length
            · have k2 : (k : Int) < (v.ms.length : Int) := by omega
              obtain ⟨p1, r1, fa1, fc1, ua1, uc1, rfl, hz2, hp1, m10, m11, hm1⟩ := mgs_at' Q.out hkl
              have HSK := hid (HSP.out k hkl)
              have HTK : Hid (v.ms.take (k + 1) = v.ms.take k ++ [v.ms[k]]) := hid (List.take_succ_eq_append_getElem hkl)
              replace m10 := cell_kp m10 hb.out (hZf _ hz2)
              replace m11 := cell_kp m11 hb.out (hZf _ hz2)
              replace hp1 : p1 < wr.heap.size := World.block_lt_of_cell? _ _ m10
              generalize v.ms[k] = m at *
              have HLN : pre.length < (allM x).length := by
                have e1 : pre.length = (P0 ++ ((xs.take j).flatMap CV.ms ++ v.ms.take k)).length := by rw [← HP.out, List.length_map]
                rw [e1, HAL.out, HSK.out]
                simp only [List.length_append, List.length_cons]
                omega
              have HPX : Hid (P0 ++ ((xs.take j).flatMap CV.ms ++ v.ms.take (k + 1)) <+: allM x) := hid (by
                rw [HAL.out, HSK.out, HTK.out]
                exact ⟨v.ms.drop (k + 1) ++ (xs.drop (j + 1)).flatMap CV.ms ++ R0, by simp only [List.append_assoc, List.cons_append, List.nil_append]⟩)
              have HME : Hid (MsgE w Z d [.slice fa1 m.fs.length fc1, .slice ua1 m.us.length uc1] m) := hid hm1
              have HIN : Hid (m ∈ allM x) := hid (by rw [HAL.out, HSK.out]; simp)
              clear hm1
              obtain ⟨fn, tmps, assign, body, hy, hR⟩ := HY.out pre ⟨([.slice fa1 m.fs.length fc1, .slice ua1 m.us.length uc1], m), HME.out, HIN.out⟩ (wr.alloc (.cells #[.slice fa1 m.fs.length fc1, .slice ua1 m.us.length uc1] 35)) (abide_alloc HJ.out HJ0.out _) HLN
              dsimp only [encM] at hy
              have HR := hid hR
              clear hR HLN
              gi_wp2
              refine HR.out.mono ?_
              rintro e W3 (⟨rfl, hJ3, hk3⟩ | ⟨rfl, hJx3⟩)
              · have hb3 : Hid (Keep f w W3) := hid ((kpBl hb.out (by exact blBy)).trans hk3)
                have HJ3 := hid hJ3
                clear hJ3 hk3 hy m10 m11 hp1
                gi_wp2
                exact ⟨⟨k + 1, _, by simp, by omega, hid (by rw [List.map_append, HP.out, HTK.out]; simp), HJ3, hb3⟩, by simp [intOf]; omega⟩
              · have HJ3 := hid hJx3
                clear hJx3 hy m10 m11 hp1
                gi_wp2
                refine bodyPost_ret (results_none rfl _ _ _) rfl ?_
                exact ⟨⟨_, rfl⟩, .inr ⟨_, by rw [List.map_append, HP.out]; have := HPX.out; rw [HTK.out] at this; simpa using this, HJ3.out⟩⟩
            · have k2 : ¬ (k : Int) < (v.ms.length : Int) := by omega
              have e1 : v.ms.take k = v.ms := List.take_of_length_le (by omega)
              rw [e1] at HP
              clear e1
              gi_wp2
              exact ⟨⟨j + 1, pre, by simp, by omega, hid (by rw [HP.out, HNJ.out]), HJ0, hb⟩, by simp [intOf]; omega⟩
        · have k1 : ¬ (j : Int) < (xs.length : Int) := by omega
          have e1 : xs.take j = xs := List.take_of_length_le (by omega)
          rw [e1] at HP
          clear e1
          gi_wp2
          exact ⟨⟨i + 1, pre, by simp, by omega, hid (by rw [HP.out, HNX.out]), HJ0, hb⟩, by simp [intOf]; omega⟩
    · have k0 : ¬ (i : Int) < 2 := by omega
      have ei : i = 2 := by omega
      rw [ei] at HP
      clear ei
      gi_wp2
      go_end0
      exact ⟨⟨_, rfl⟩, .inl ⟨pre, by rw [HP.out]; unfold allM; simp, HJ0.out⟩⟩
end Go.Proofs.YtgephggcgopfgaaGreatDoor
namespace Go.Proofs.YtgephggcgopfgaaGreatDoor
open Go.RowKit
set_option maxRecDepth 1000000
set_option linter.unusedVariables false
set_option linter.unusedSimpArgs false
set_option maxHeartbeats 1000000
def defV (v : CV CM) : Bool := (v.n == 0) && ((v.b.length : Int) == 0)
/-- Whether a typed field is more than if it were not there. -/
def toldO (o : FT) (f : CF CM) : Bool := if o.lab = 0 then (match f.vs with | v :: _ => !(defV v) | [] => true) else if o.lab = 2 ∨ o.lab = 3 ∨ o.lab = 5 then decide (0 < f.vs.length) else true
def toldB (fs : List FT) (f : CF CM) : Bool := toldO (ownF fs f.num) f
def takenO (o : FT) (ok : Bool) (k : Int) : Bool := ok && (tvF o k || trF o k)
def takenB (fs : List FT) (e : CE) : Bool := takenO (ownF fs e.num) (hasF fs e.num) e.kind
theorem told_zero {o : FT} {f : CF CM} (h0 : o.lab = 0) (h : 0 < f.vs.length) : toldO o f = !((f.vs[0].n == 0) && ((f.vs[0].b.length : Int) == 0)) := by
  obtain ⟨num, ks, vs⟩ := f
  cases vs with
  | nil => simp at h
  | cons v r => simp only [toldO, h0, if_pos, defV, List.getElem_cons_zero]
theorem isDefM (w : World) (n : Int) (ba ma : Option Addr) (bn bc mn mc : Nat) (l1 : bn ≤ 4000000) : Calls Tryz.prog 118 #[.agg #[.int .u64 n, .slice ba bn bc, .slice ma mn mc]] w fun e w' => e = .returned (.bool ((n == 0) && ((bn : Int) == 0))) ∧ Below w.heap.size w w' := by
  have m1 : (bn : Int) ≤ 9223372036854775807 := by omega
  go_enter Tryz.func118, Tryz.ntmps118
  go_wp2
  all_goals (go_ret; exact ⟨ret_bool (by simp [*]), by exact blBy⟩)
theorem isToldM (w : World) (x : TV) (hx : TyR w x) (hr : Rise x.t.fs) (hl : x.t.fs.length ≤ 128) (Z : Nat → Prop) (d : Nat) (cs : List Value) (f : CF CM) (hf : FldE w Z (MsgE w Z d) cs f) (hv : (ownF x.t.fs f.num).lab = 0 → 0 < f.vs.length) : Calls Tryz.prog 85 #[.agg (cTV x).toArray, .agg cs.toArray] w fun e w' => e = .returned (.bool (toldB x.t.fs f)) ∧ Below w.heap.size w w' := by
  obtain ⟨ta1, tc1, ta2, tc2, ta3, tc3, ta4, tc4, e1, e2, e3, e4⟩ := shT_of hx
  have ecx : cTV x = [.string (strOfNums x.t.name), .bool x.t.enum, .slice ta1 x.t.fs.length tc1, .slice ta2 x.t.os.length tc2, .slice ta3 x.t.ss.length tc3, .slice ta4 x.t.rs.length tc4] := by unfold cTV; rw [e1, e2, e3, e4]
  rw [ecx]
  have HFO := hid fun W (hW : Below w.heap.size w W) => findT x.t.fs f.num W ta1 tc1 (by rw [← e1]; exact (hx.kept hW).f) hr hl
  obtain ⟨ka, kc, va, vc, rfl, -, g2, l1, l2, -⟩ := fld_open hf
  have G := hid g2
  have m2 : (f.vs.length : Int) ≤ 9223372036854775807 := by omega
  have HX0 : Hid (toldB x.t.fs f = toldO (ownF x.t.fs f.num) f) := hid rfl
  generalize toldB x.t.fs f = res at *
  generalize ownF x.t.fs f.num = o at *
  generalize hasF x.t.fs f.num = ok at *
  clear hx hf g2 hr hl e1 e2 e3 e4 ecx
  by_cases h0 : o.lab = 0
  · have hvl := hv h0
    obtain ⟨b1, o1, ba1, bc1, ma1, mc1, rfl, -, hb1, c0, c1, c2, he⟩ := vls_at G.out (i := 0) hvl
    obtain ⟨_, _, _, _, e5, -, -, bl1, -, -⟩ := val_open he
    clear e5 he
    have HX : Hid (res = !((f.vs[0].n == 0) && ((f.vs[0].b.length : Int) == 0))) := hid (by rw [HX0.out]; exact told_zero h0 hvl)
    have k0 : (o.lab == 0) = true := by simp [h0]
    have k1 : (0 : Int) < (f.vs.length : Int) := by omega
    have hvl' := hid hvl
    clear HX0 h0 hv
    generalize f.vs[0] = v at *
    simp only [Nat.zero_mul, Nat.add_zero] at c0 c1 c2
    go_enter Tryz.func85, Tryz.ntmps85
    go_wp2_with fail
    refine (HFO.out _ (by exact blBy)).mono ?_
    rintro e w1 ⟨rfl, hbx⟩
    unfold tFT
    have HB1 : Hid (Below w.heap.size w w1) := hid (bl_then (by exact blBy) hbx)
    have Bf : Blk w1 (w.heap.size + 1) 29 #[.int .i64 f.num, .slice ka f.ks.length kc, .slice (some ⟨b1, o1, none⟩) f.vs.length vc] := (Blk.newAt (by simp)).kept hbx
    have xf := Bf.cellF
    have zf := Bf.lt
    replace c0 := cell_below c0 HB1.out
    replace c1 := cell_below c1 HB1.out
    replace c2 := cell_below c2 HB1.out
    replace hb1 : b1 < w1.heap.size := World.block_lt_of_cell? _ _ c0
    clear hbx HFO Bf
    go_wp2_with fail
    refine (isDefM _ v.n ba1 ma1 v.b.length bc1 v.ms.length mc1 bl1).mono ?_
    rintro e w2 ⟨rfl, hb2⟩
    have HB2 : Hid (Below w.heap.size w w2) := hid (bl_then (by have := HB1.out; exact blBy) hb2)
    clear hb2
    go_wp2
    go_ret
    exact ⟨ret_bool (by rw [HX.out]; simp), HB2.out⟩
  have k0 : (o.lab == 0) = false := by simpa using h0
  by_cases h2 : o.lab = 2
  · have k2 : (o.lab == 2) = true := by simp [h2]
    have HX : Hid (res = decide (0 < f.vs.length)) := hid (by rw [HX0.out]; unfold toldO; rw [if_neg h0, if_pos (by omega)])
    clear HX0 h0  h2 hv
    by_cases hn : 0 < f.vs.length
    · have k1 : (0 < (f.vs.length : Int)) = True := eq_true (by omega)
      have k9 : (0 < f.vs.length) = True := eq_true hn
      have HX2 : Hid (res = true) := hid (by rw [HX.out]; simpa using hn)
      clear hn HX
      go_enter Tryz.func85, Tryz.ntmps85
      go_wp2_with fail
      refine (HFO.out _ (by exact blBy)).mono ?_
      rintro e w1 ⟨rfl, hbx⟩
      unfold tFT
      have HB1 : Hid (Below w.heap.size w w1) := hid (bl_then (by exact blBy) hbx)
      have Bf : Blk w1 (w.heap.size + 1) 29 #[.int .i64 f.num, .slice ka f.ks.length kc, .slice va f.vs.length vc] := (Blk.newAt (by simp)).kept hbx
      have xf := Bf.cellF
      have zf := Bf.lt
      clear hbx HFO Bf
      go_wp2
      go_ret
      exact ⟨ret_bool HX2.out.symm, by have := HB1.out; exact blBy⟩
    · have k1 : (0 < (f.vs.length : Int)) = False := eq_false (by omega)
      have k9 : (0 < f.vs.length) = False := eq_false hn
      have HX2 : Hid (res = false) := hid (by rw [HX.out]; simpa using hn)
      clear hn HX
      go_enter Tryz.func85, Tryz.ntmps85
      go_wp2_with fail
      refine (HFO.out _ (by exact blBy)).mono ?_
      rintro e w1 ⟨rfl, hbx⟩
      unfold tFT
      have HB1 : Hid (Below w.heap.size w w1) := hid (bl_then (by exact blBy) hbx)
      have Bf : Blk w1 (w.heap.size + 1) 29 #[.int .i64 f.num, .slice ka f.ks.length kc, .slice va f.vs.length vc] := (Blk.newAt (by simp)).kept hbx
      have xf := Bf.cellF
      have zf := Bf.lt
      clear hbx HFO Bf
      go_wp2
      go_ret
      exact ⟨ret_bool HX2.out.symm, by have := HB1.out; exact blBy⟩
  by_cases h3 : o.lab = 3
  · have k3 : (o.lab == 3) = true := by simp [h3]
    have k2 : (o.lab == 2) = false := by simpa using h2
    have HX : Hid (res = decide (0 < f.vs.length)) := hid (by rw [HX0.out]; unfold toldO; rw [if_neg h0, if_pos (by omega)])
    clear HX0 h0 h2 h3 hv
    by_cases hn : 0 < f.vs.length
    · have k1 : (0 < (f.vs.length : Int)) = True := eq_true (by omega)
      have k9 : (0 < f.vs.length) = True := eq_true hn
      have HX2 : Hid (res = true) := hid (by rw [HX.out]; simpa using hn)
      clear hn HX
      go_enter Tryz.func85, Tryz.ntmps85
      go_wp2_with fail
      refine (HFO.out _ (by exact blBy)).mono ?_
      rintro e w1 ⟨rfl, hbx⟩
      unfold tFT
      have HB1 : Hid (Below w.heap.size w w1) := hid (bl_then (by exact blBy) hbx)
      have Bf : Blk w1 (w.heap.size + 1) 29 #[.int .i64 f.num, .slice ka f.ks.length kc, .slice va f.vs.length vc] := (Blk.newAt (by simp)).kept hbx
      have xf := Bf.cellF
      have zf := Bf.lt
      clear hbx HFO Bf
      go_wp2
      go_ret
      exact ⟨ret_bool HX2.out.symm, by have := HB1.out; exact blBy⟩
    · have k1 : (0 < (f.vs.length : Int)) = False := eq_false (by omega)
      have k9 : (0 < f.vs.length) = False := eq_false hn
      have HX2 : Hid (res = false) := hid (by rw [HX.out]; simpa using hn)
      clear hn HX
      go_enter Tryz.func85, Tryz.ntmps85
      go_wp2_with fail
      refine (HFO.out _ (by exact blBy)).mono ?_
      rintro e w1 ⟨rfl, hbx⟩
      unfold tFT
      have HB1 : Hid (Below w.heap.size w w1) := hid (bl_then (by exact blBy) hbx)
      have Bf : Blk w1 (w.heap.size + 1) 29 #[.int .i64 f.num, .slice ka f.ks.length kc, .slice va f.vs.length vc] := (Blk.newAt (by simp)).kept hbx
      have xf := Bf.cellF
      have zf := Bf.lt
      clear hbx HFO Bf
      go_wp2
      go_ret
      exact ⟨ret_bool HX2.out.symm, by have := HB1.out; exact blBy⟩
  by_cases h5 : o.lab = 5
  · have k5 : (o.lab == 5) = true := by simp [h5]
    have k2 : (o.lab == 2) = false := by simpa using h2
    have k3 : (o.lab == 3) = false := by simpa using h3
    have HX : Hid (res = decide (0 < f.vs.length)) := hid (by rw [HX0.out]; unfold toldO; rw [if_neg h0, if_pos (by omega)])
    clear HX0 h0 h2 h3 h5 hv
    by_cases hn : 0 < f.vs.length
    · have k1 : (0 < (f.vs.length : Int)) = True := eq_true (by omega)
      have k9 : (0 < f.vs.length) = True := eq_true hn
      have HX2 : Hid (res = true) := hid (by rw [HX.out]; simpa using hn)
      clear hn HX
      go_enter Tryz.func85, Tryz.ntmps85
      go_wp2_with fail
      refine (HFO.out _ (by exact blBy)).mono ?_
      rintro e w1 ⟨rfl, hbx⟩
      unfold tFT
      have HB1 : Hid (Below w.heap.size w w1) := hid (bl_then (by exact blBy) hbx)
      have Bf : Blk w1 (w.heap.size + 1) 29 #[.int .i64 f.num, .slice ka f.ks.length kc, .slice va f.vs.length vc] := (Blk.newAt (by simp)).kept hbx
      have xf := Bf.cellF
      have zf := Bf.lt
      clear hbx HFO Bf
      go_wp2
      go_ret
      exact ⟨ret_bool HX2.out.symm, by have := HB1.out; exact blBy⟩
    · have k1 : (0 < (f.vs.length : Int)) = False := eq_false (by omega)
      have k9 : (0 < f.vs.length) = False := eq_false hn
      have HX2 : Hid (res = false) := hid (by rw [HX.out]; simpa using hn)
      clear hn HX
      go_enter Tryz.func85, Tryz.ntmps85
      go_wp2_with fail
      refine (HFO.out _ (by exact blBy)).mono ?_
      rintro e w1 ⟨rfl, hbx⟩
      unfold tFT
      have HB1 : Hid (Below w.heap.size w w1) := hid (bl_then (by exact blBy) hbx)
      have Bf : Blk w1 (w.heap.size + 1) 29 #[.int .i64 f.num, .slice ka f.ks.length kc, .slice va f.vs.length vc] := (Blk.newAt (by simp)).kept hbx
      have xf := Bf.cellF
      have zf := Bf.lt
      clear hbx HFO Bf
      go_wp2
      go_ret
      exact ⟨ret_bool HX2.out.symm, by have := HB1.out; exact blBy⟩
  · have k2 : (o.lab == 2) = false := by simpa using h2
    have k3 : (o.lab == 3) = false := by simpa using h3
    have k5 : (o.lab == 5) = false := by simpa using h5
    have HX : Hid (res = true) := hid (by rw [HX0.out]; unfold toldO; rw [if_neg h0, if_neg (by omega)])
    clear HX0 h0 h2 h3 h5 hv
    go_enter Tryz.func85, Tryz.ntmps85
    go_wp2_with fail
    refine (HFO.out _ (by exact blBy)).mono ?_
    rintro e w1 ⟨rfl, hbx⟩
    unfold tFT
    have HB1 : Hid (Below w.heap.size w w1) := hid (bl_then (by exact blBy) hbx)
    have Bf : Blk w1 (w.heap.size + 1) 29 #[.int .i64 f.num, .slice ka f.ks.length kc, .slice va f.vs.length vc] := (Blk.newAt (by simp)).kept hbx
    have xf := Bf.cellF
    have zf := Bf.lt
    clear hbx HFO Bf
    go_wp2
    go_ret
    exact ⟨ret_bool HX.out.symm, by have := HB1.out; exact blBy⟩
theorem isTakenM (w : World) (x : TV) (hx : TyR w x) (hr : Rise x.t.fs) (hl : x.t.fs.length ≤ 128) (Z : Nat → Prop) (cs : List Value) (y : CE) (hy : EntE w Z cs y) : Calls Tryz.prog 87 #[.agg (cTV x).toArray, .agg cs.toArray] w fun e w' => e = .returned (.bool (takenB x.t.fs y)) ∧ Below w.heap.size w w' := by
  obtain ⟨ta1, tc1, ta2, tc2, ta3, tc3, ta4, tc4, e1, e2, e3, e4⟩ := shT_of hx
  have ecx : cTV x = [.string (strOfNums x.t.name), .bool x.t.enum, .slice ta1 x.t.fs.length tc1, .slice ta2 x.t.os.length tc2, .slice ta3 x.t.ss.length tc3, .slice ta4 x.t.rs.length tc4] := by unfold cTV; rw [e1, e2, e3, e4]
  rw [ecx]
  have HFO := hid fun W (hW : Below w.heap.size w W) => findT x.t.fs y.num W ta1 tc1 (by rw [← e1]; exact (hx.kept hW).f) hr hl
  obtain ⟨ba, bc, rfl, -⟩ := ent_open hy
  have HX0 : Hid (takenB x.t.fs y = takenO (ownF x.t.fs y.num) (hasF x.t.fs y.num) y.kind) := hid rfl
  generalize takenB x.t.fs y = res at *
  generalize ownF x.t.fs y.num = o at *
  generalize hasF x.t.fs y.num = ok at *
  clear hx hy hr hl e1 e2 e3 e4 ecx
  cases ok with
  | false =>
    have HX : Hid (res = false) := hid (by rw [HX0.out]; rfl)
    go_enter Tryz.func87, Tryz.ntmps87
    go_wp2_with fail
    refine (HFO.out _ (by exact blBy)).mono ?_
    rintro e w1 ⟨rfl, hbx⟩
    unfold tFT
    have HB1 : Hid (Below w.heap.size w w1) := hid (bl_then (by exact blBy) hbx)
    have Be : Blk w1 (w.heap.size + 1) 40 #[.int .i64 y.num, .int .i64 y.kind, .int .u64 y.n, .slice ba y.b.length bc] := (Blk.newAt (by simp)).kept hbx
    have xe := Be.cellF
    have ze := Be.lt
    clear hbx HFO
    go_wp2
    go_ret
    exact ⟨ret_bool HX.out.symm, by have := HB1.out; exact blBy⟩
  | true =>
    have HX1 : Hid (res = (tvF o y.kind || trF o y.kind)) := hid (by rw [HX0.out]; simp [takenO])
    have HTV := hid fun W => takesValueT o W y.kind
    have HTR := hid fun W => takesRowT o W y.kind
    cases hq : tvF o y.kind with
    | true =>
      rw [hq, Bool.true_or] at HX1
      rw [hq] at HTV
      go_enter Tryz.func87, Tryz.ntmps87
      go_wp2_with fail
      refine (HFO.out _ (by exact blBy)).mono ?_
      rintro e w1 ⟨rfl, hbx⟩
      unfold tFT
      have HB1 : Hid (Below w.heap.size w w1) := hid (bl_then (by exact blBy) hbx)
      have Be : Blk w1 (w.heap.size + 1) 40 #[.int .i64 y.num, .int .i64 y.kind, .int .u64 y.n, .slice ba y.b.length bc] := (Blk.newAt (by simp)).kept hbx
      have xe := Be.cellF
      have ze := Be.lt
      clear hbx HFO
      go_wp2_with fail
      refine (HTV.out _).mono ?_
      rintro e w2 ⟨rfl, hb2⟩
      have HB2 : Hid (Below w.heap.size w w2) := hid (bl_then (by have := HB1.out; exact blBy) hb2)
      clear hb2
      go_wp2
      go_ret
      exact ⟨ret_bool HX1.out.symm, HB2.out⟩
    | false =>
      rw [hq, Bool.false_or] at HX1
      rw [hq] at HTV
      go_enter Tryz.func87, Tryz.ntmps87
      go_wp2_with fail
      refine (HFO.out _ (by exact blBy)).mono ?_
      rintro e w1 ⟨rfl, hbx⟩
      unfold tFT
      have HB1 : Hid (Below w.heap.size w w1) := hid (bl_then (by exact blBy) hbx)
      have Be : Blk w1 (w.heap.size + 1) 40 #[.int .i64 y.num, .int .i64 y.kind, .int .u64 y.n, .slice ba y.b.length bc] := (Blk.newAt (by simp)).kept hbx
      have xe := Be.cellF
      have ze := Be.lt
      clear hbx HFO
      go_wp2_with fail
      refine (HTV.out _).mono ?_
      rintro e w2 ⟨rfl, hb2⟩
      have HB2 : Hid (Below w.heap.size w w2) := hid (bl_then (by have := HB1.out; exact blBy) hb2)
      have Be2 : Blk w2 (w.heap.size + 1) 40 #[.int .i64 y.num, .int .i64 y.kind, .int .u64 y.n, .slice ba y.b.length bc] := by first | exact Be.kept hb2 | exact (Be.kept (below_alloc _)).kept hb2
      have xe2 := Be2.cellF
      have Bo2 : Blk w2 w1.heap.size 82 #[.string (strOfNums o.name), .int .i64 o.num, .int .i64 o.kind, .int .i64 o.ref, .int .i64 o.lab, .int .i64 o.one, .int .i64 o.key] := (Blk.new _ _ _).kept hb2
      have xo2 := Bo2.cellF
      have zo2 := Bo2.lt
      have ze2 := Be2.lt
      clear hb2
      go_wp2_with fail
      refine (HTR.out _).mono ?_
      rintro e w3 ⟨rfl, hb3⟩
      have HB3 : Hid (Below w.heap.size w w3) := hid (bl_then (by have := HB2.out; exact blBy) hb3)
      clear hb3
      go_wp2
      go_ret
      exact ⟨ret_bool HX1.out.symm, HB3.out⟩
end Go.Proofs.YtgephggcgopfgaaGreatDoor
namespace Go.Proofs.YtgephggcgopfgaaGreatDoor
open Go.RowKit
set_option maxRecDepth 1000000
set_option linter.unusedVariables false
set_option linter.unusedSimpArgs false
set_option maxHeartbeats 1000000
def untk (fs : List FT) (e : CE) : Bool := !(takenB fs e)
theorem toldFn (w : World) (x : TV) (hx : TyR w x) (hr : Rise x.t.fs) (hl : x.t.fs.length ≤ 128) (Z : Nat → Prop) (d : Nat) (cs : List Value) (f : CF CM) (hf : FldE w Z (MsgE w Z d) cs f) (hv : (ownF x.t.fs f.num).lab = 0 → 0 < f.vs.length) (p : Nat) (hp : Blk w p 71 (cTV x).toArray) : Calls Tryz.prog 84 #[.agg cs.toArray, .pointer (some ⟨p, 0, none⟩)] w fun e w' => e = .returned (.bool (toldB x.t.fs f)) ∧ Below w.heap.size w w' := by
  have HT := hid fun W (hW : Below w.heap.size w W) => isToldM W x (hx.kept hW) hr hl Z d cs f (hf.kept hW) hv
  obtain ⟨ta1, tc1, ta2, tc2, ta3, tc3, ta4, tc4, e1, e2, e3, e4⟩ := shT_of hx
  have ecx : cTV x = [.string (strOfNums x.t.name), .bool x.t.enum, .slice ta1 x.t.fs.length tc1, .slice ta2 x.t.os.length tc2, .slice ta3 x.t.ss.length tc3, .slice ta4 x.t.rs.length tc4] := by unfold cTV; rw [e1, e2, e3, e4]
  obtain ⟨ka, kc, va, vc, rfl, -⟩ := fld_open hf
  rw [ecx] at HT hp
  have xp := hp.cellF
  have zp := hp.lt
  clear hx hf e1 e2 e3 e4 ecx hp hr hl hv
  go_enter Tryz.func84, Tryz.ntmps84
  go_wp2_with fail
  refine (HT.out _ (by exact blBy)).mono ?_
  rintro e w1 ⟨rfl, hb1⟩
  have HB1 : Hid (Below w.heap.size w w1) := hid (bl_then (by exact blBy) hb1)
  clear hb1
  go_wp2
  go_ret
  exact ⟨rfl, HB1.out⟩
theorem untkFn (w : World) (x : TV) (hx : TyR w x) (hr : Rise x.t.fs) (hl : x.t.fs.length ≤ 128) (Z : Nat → Prop) (cs : List Value) (y : CE) (hy : EntE w Z cs y) (p : Nat) (hp : Blk w p 71 (cTV x).toArray) : Calls Tryz.prog 86 #[.agg cs.toArray, .pointer (some ⟨p, 0, none⟩)] w fun e w' => e = .returned (.bool (untk x.t.fs y)) ∧ Below w.heap.size w w' := by
  have HT := hid fun W (hW : Below w.heap.size w W) => isTakenM W x (hx.kept hW) hr hl Z cs y (hy.kept hW)
  obtain ⟨ta1, tc1, ta2, tc2, ta3, tc3, ta4, tc4, e1, e2, e3, e4⟩ := shT_of hx
  have ecx : cTV x = [.string (strOfNums x.t.name), .bool x.t.enum, .slice ta1 x.t.fs.length tc1, .slice ta2 x.t.os.length tc2, .slice ta3 x.t.ss.length tc3, .slice ta4 x.t.rs.length tc4] := by unfold cTV; rw [e1, e2, e3, e4]
  obtain ⟨ba, bc, rfl, -⟩ := ent_open hy
  have HX : Hid ((!(takenB x.t.fs y)) = untk x.t.fs y) := hid rfl
  rw [ecx] at HT hp
  have xp := hp.cellF
  have zp := hp.lt
  clear hx hy e1 e2 e3 e4 ecx hp hr hl
  go_enter Tryz.func86, Tryz.ntmps86
  go_wp2_with fail
  refine (HT.out _ (by exact blBy)).mono ?_
  rintro e w1 ⟨rfl, hb1⟩
  have HB1 : Hid (Below w.heap.size w w1) := hid (bl_then (by exact blBy) hb1)
  clear hb1
  go_wp2
  go_ret
  exact ⟨ret_bool HX.out, HB1.out⟩
theorem cfTold (args : Array Value) (W : World) : (callFunc 84 args).run Tryz.prog W = .ok (.enter 84 args) W := cf_enter Tryz.func84 (by kernel_rfl) (by kernel_rfl) args W
theorem cfUntk (args : Array Value) (W : World) : (callFunc 86 args).run Tryz.prog W = .ok (.enter 86 args) W := cf_enter Tryz.func86 (by kernel_rfl) (by kernel_rfl) args W
/-- What stays of a message, but for what the messages within hold. -/
def stayM (x : TV) (m : CM) : CM := CM.mk (m.fs.filter (toldB x.t.fs)) (m.us.filter (untk x.t.fs))
theorem settledM (w : World) (x : TV) (hx : TyR w x) (hr : Rise x.t.fs) (hl : x.t.fs.length ≤ 128) (Z : Nat → Prop) (d : Nat) (cs : List Value) (m : CM) (hm : MsgE w Z (d + 1) cs m) (hv : ∀ f ∈ m.fs, (ownF x.t.fs f.num).lab = 0 → 0 < f.vs.length) : Calls Tryz.prog 38 #[.agg (cTV x).toArray, .agg cs.toArray] w fun e w' => ∃ ds : List Value, e = .returned (.agg ds.toArray) ∧ MsgE w' (fun b => Z b ∨ w.heap.size ≤ b) (d + 1) ds (stayM x m) ∧ Below w.heap.size w w' := by
  obtain ⟨ka, kc, va, vc, rfl, g1, g2, l1, l2⟩ := msg_open (MsgE.old (d + 1) _ _ hm)
  have HTF := hid fun W (hW : Below w.heap.size w W) (p : Nat) (hp : Blk W p 71 (cTV x).toArray) => chosenF W (fun b => Z b ∧ b < w.heap.size) d m.fs ka kc (g1.kept hW) 84 #[.pointer (some ⟨p, 0, none⟩)] cfTold (toldB x.t.fs) (fun W' hW' cs f hf hfe => toldFn W' x (hx.kept (below_trans hW hW')) hr hl _ d cs f hfe (hv f hf) p (hp.kept hW'))
  have HTE := hid fun W (hW : Below w.heap.size w W) (p : Nat) (hp : Blk W p 71 (cTV x).toArray) => chosenE W (fun b => Z b ∧ b < w.heap.size) m.us va vc (g2.kept hW) 86 #[.pointer (some ⟨p, 0, none⟩)] cfUntk (untk x.t.fs) (fun W' hW' cs y hy hye => untkFn W' x (hx.kept (below_trans hW hW')) hr hl _ cs y hye p (hp.kept hW'))
  obtain ⟨ta1, tc1, ta2, tc2, ta3, tc3, ta4, tc4, e1, e2, e3, e4⟩ := shT_of hx
  have ecx : cTV x = [.string (strOfNums x.t.name), .bool x.t.enum, .slice ta1 x.t.fs.length tc1, .slice ta2 x.t.os.length tc2, .slice ta3 x.t.ss.length tc3, .slice ta4 x.t.rs.length tc4] := by unfold cTV; rw [e1, e2, e3, e4]
  rw [ecx] at HTF HTE ⊢
  have HST : Hid (stayM x m = CM.mk (m.fs.filter (toldB x.t.fs)) (m.us.filter (untk x.t.fs))) := hid rfl
  generalize stayM x m = res at *
  generalize m.fs.filter (toldB x.t.fs) = nf at *
  generalize m.us.filter (untk x.t.fs) = nu at *
  clear hx hm g1 g2 e1 e2 e3 e4 ecx hr hl hv
  go_enter Tryz.func38, Tryz.ntmps38
  go_upto_region 3 with fail
  have Bx : Blk (((w.alloc (.cells #[.string (strOfNums x.t.name), .bool x.t.enum, .slice ta1 x.t.fs.length tc1, .slice ta2 x.t.os.length tc2, .slice ta3 x.t.ss.length tc3, .slice ta4 x.t.rs.length tc4] 71)).alloc (.cells #[.slice ka m.fs.length kc, .slice va m.us.length vc] 35)).alloc (.cells #[.slice none 0 0, .slice none 0 0] 35)) w.heap.size 71 #[.string (strOfNums x.t.name), .bool x.t.enum, .slice ta1 x.t.fs.length tc1, .slice ta2 x.t.os.length tc2, .slice ta3 x.t.ss.length tc3, .slice ta4 x.t.rs.length tc4] := ((Blk.new _ _ _).kept (below_alloc _)).kept (below_alloc _)
  have Bm : Blk (((w.alloc (.cells #[.string (strOfNums x.t.name), .bool x.t.enum, .slice ta1 x.t.fs.length tc1, .slice ta2 x.t.os.length tc2, .slice ta3 x.t.ss.length tc3, .slice ta4 x.t.rs.length tc4] 71)).alloc (.cells #[.slice ka m.fs.length kc, .slice va m.us.length vc] 35)).alloc (.cells #[.slice none 0 0, .slice none 0 0] 35)) (w.heap.size + 1) 35 #[.slice ka m.fs.length kc, .slice va m.us.length vc] := (Blk.newAt (by simp)).kept (below_alloc _)
  have Br : Blk (((w.alloc (.cells #[.string (strOfNums x.t.name), .bool x.t.enum, .slice ta1 x.t.fs.length tc1, .slice ta2 x.t.os.length tc2, .slice ta3 x.t.ss.length tc3, .slice ta4 x.t.rs.length tc4] 71)).alloc (.cells #[.slice ka m.fs.length kc, .slice va m.us.length vc] 35)).alloc (.cells #[.slice none 0 0, .slice none 0 0] 35)) (w.heap.size + 1 + 1) 35 #[.slice none 0 0, .slice none 0 0] := Blk.newAt (by simp)
  have HB : Hid (Below w.heap.size w (((w.alloc (.cells #[.string (strOfNums x.t.name), .bool x.t.enum, .slice ta1 x.t.fs.length tc1, .slice ta2 x.t.os.length tc2, .slice ta3 x.t.ss.length tc3, .slice ta4 x.t.rs.length tc4] 71)).alloc (.cells #[.slice ka m.fs.length kc, .slice va m.us.length vc] 35)).alloc (.cells #[.slice none 0 0, .slice none 0 0] 35))) := hid (by exact blBy)
  have HS : Hid (w.heap.size + 3 ≤ (((w.alloc (.cells #[.string (strOfNums x.t.name), .bool x.t.enum, .slice ta1 x.t.fs.length tc1, .slice ta2 x.t.os.length tc2, .slice ta3 x.t.ss.length tc3, .slice ta4 x.t.rs.length tc4] 71)).alloc (.cells #[.slice ka m.fs.length kc, .slice va m.us.length vc] 35)).alloc (.cells #[.slice none 0 0, .slice none 0 0] 35)).heap.size) := hid (by simp)
  generalize (((w.alloc (.cells #[.string (strOfNums x.t.name), .bool x.t.enum, .slice ta1 x.t.fs.length tc1, .slice ta2 x.t.os.length tc2, .slice ta3 x.t.ss.length tc3, .slice ta4 x.t.rs.length tc4] 71)).alloc (.cells #[.slice ka m.fs.length kc, .slice va m.us.length vc] 35)).alloc (.cells #[.slice none 0 0, .slice none 0 0] 35)) = W at *
  have f0 : W.cell? ⟨w.heap.size + 1, 0, none⟩ = some (.slice ka m.fs.length kc) := Bm.cell 0 _ rfl
  have f1 : W.cell? ⟨w.heap.size + 1, 1, none⟩ = some (.slice va m.us.length vc) := Bm.cell 1 _ rfl
  have hp1 : w.heap.size + 1 ≠ w.heap.size + 1 + 1 := by omega
  have HBX := hid Bx
  have xr := Br.cellF
  have yr := Br.frz
  have zr := Br.lt
  clear Bx Bm
  go_region_held3 (fun W => W.cell? ⟨w.heap.size + 1, 0, none⟩ = some (.slice ka m.fs.length kc) ∧ W.cell? ⟨w.heap.size + 1, 1, none⟩ = some (.slice va m.us.length vc)) (first | exact ⟨f0, f1⟩ | exact ⟨cs2 f0 hp1, cs2 f1 hp1⟩) (first | (go_at_call 66; refine (HTF.out _ (by have := HB.out; exact blBy) _ (HBX.out.kept (by first | exact Below.refl _ _ | exact below_drew1 _ | exact below_drewN _ _))).mono ?_; rintro e w2 ⟨a1, c1, rfl, hn, hbx⟩; replace f0 := cell_below f0 (below_trans (by first | exact Below.refl _ _ | exact below_drew1 _ | exact below_drewN _ _) hbx); replace f1 := cell_below f1 (below_trans (by first | exact Below.refl _ _ | exact below_drew1 _ | exact below_drewN _ _) hbx); replace Br := Br.kept (below_trans (by first | exact Below.refl _ _ | exact below_drew1 _ | exact below_drewN _ _) hbx); replace xr := Br.cellF; replace yr := Br.frz; replace zr := Br.lt; replace HB := hid (below_trans HB.out (below_trans (by first | exact Below.refl _ _ | exact below_drew1 _ | exact below_drewN _ _) hbx)); replace HBX := hid (HBX.out.kept (below_trans (by first | exact Below.refl _ _ | exact below_drew1 _ | exact below_drewN _ _) hbx)); have H1 : Hid (FlsR w2 (fun b => b ≠ w.heap.size + 1 + 1 ∧ (Z b ∨ w.heap.size ≤ b)) d (.slice a1 nf.length c1) nf) := hid (FlsR.go hn (Keep.refl (fun _ => True) _) (fun _ _ => trivial) (fun b hz => by rcases hz with hz | hz; exact ⟨by have := hz.2; omega, Or.inl hz.1⟩; exact ⟨by have := HS.out; (try simp at hz); omega, Or.inr (by have := HS.out; (try simp at hz); omega)⟩)); (try replace H2 := hid (EnsR.kept H2.out (below_trans (by first | exact Below.refl _ _ | exact below_drew1 _ | exact below_drewN _ _) hbx))); replace HS := hid (Nat.le_trans HS.out (Below.size (below_trans (by first | exact Below.refl _ _ | exact below_drew1 _ | exact below_drewN _ _) hbx))); clear hn hbx) | (go_at_call 88; refine (HTE.out _ (by have := HB.out; exact blBy) _ (HBX.out.kept (by first | exact Below.refl _ _ | exact below_drew1 _ | exact below_drewN _ _))).mono ?_; rintro e w3 ⟨a2, c2, rfl, hn, hbx⟩; replace f0 := cell_below f0 (below_trans (by first | exact Below.refl _ _ | exact below_drew1 _ | exact below_drewN _ _) hbx); replace f1 := cell_below f1 (below_trans (by first | exact Below.refl _ _ | exact below_drew1 _ | exact below_drewN _ _) hbx); replace Br := Br.kept (below_trans (by first | exact Below.refl _ _ | exact below_drew1 _ | exact below_drewN _ _) hbx); replace xr := Br.cellF; replace yr := Br.frz; replace zr := Br.lt; replace HB := hid (below_trans HB.out (below_trans (by first | exact Below.refl _ _ | exact below_drew1 _ | exact below_drewN _ _) hbx)); replace HBX := hid (HBX.out.kept (below_trans (by first | exact Below.refl _ _ | exact below_drew1 _ | exact below_drewN _ _) hbx)); have H2 : Hid (EnsR w3 (fun b => b ≠ w.heap.size + 1 + 1 ∧ (Z b ∨ w.heap.size ≤ b)) (.slice a2 nu.length c2) nu) := hid (EnsR.go hn (Keep.refl (fun _ => True) _) (fun _ _ => trivial) (fun b hz => by rcases hz with hz | hz; exact ⟨by have := hz.2; omega, Or.inl hz.1⟩; exact ⟨by have := HS.out; (try simp at hz); omega, Or.inr (by have := HS.out; (try simp at hz); omega)⟩)); (try replace H1 := hid (FlsR.kept H1.out (below_trans (by first | exact Below.refl _ _ | exact below_drew1 _ | exact below_drewN _ _) hbx))); replace HS := hid (Nat.le_trans HS.out (Below.size (below_trans (by first | exact Below.refl _ _ | exact below_drew1 _ | exact below_drewN _ _) hbx))); clear hn hbx))
  all_goals go_wp2
  all_goals exact bodyPost_ret (v := .agg #[.slice a1 nf.length c1, .slice a2 nu.length c2]) (by simp [results, Tryz.results38, go_sem, xr, zr, yr]) rfl ⟨[.slice a1 nf.length c1, .slice a2 nu.length c2], rfl, by rw [HST.out]; exact ⟨_, _, rfl, FlsR.go H1.out (f := (· ≠ w.heap.size + 1 + 1)) (by with_reducible repeat (first | exact Keep.refl _ _ | refine kpS ?_ (by first | (simp; done) | (simp; omega) | omega) | refine kpA ?_ _ | refine kpD ?_ | refine kpN ?_ _)) (fun _ h => h.1) (fun _ h => h.2), EnsR.go H2.out (f := (· ≠ w.heap.size + 1 + 1)) (by with_reducible repeat (first | exact Keep.refl _ _ | refine kpS ?_ (by first | (simp; done) | (simp; omega) | omega) | refine kpA ?_ _ | refine kpD ?_ | refine kpN ?_ _)) (fun _ h => h.1) (fun _ h => h.2)⟩, by have := HB.out; exact blBy⟩
end Go.Proofs.YtgephggcgopfgaaGreatDoor
