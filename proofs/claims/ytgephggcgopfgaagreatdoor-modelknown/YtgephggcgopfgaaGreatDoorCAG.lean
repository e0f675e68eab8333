/-
  What a function makes of each one of a list.
  Copy: what the program answers.
  Copy: what the program answers, at every depth.
  Copy: what the program answers: every message in new memory.
-/
import Derived.Test.YtgephggcgopfgaaGreatDoorCAA
import Derived.Deep.RegionHeld3
import Derived.Laws.EntriesVeiled
namespace Go.Proofs.YtgephggcgopfgaaGreatDoor
open Go.RowKit
set_option maxRecDepth 1000000
set_option linter.unusedVariables false
set_option linter.unusedSimpArgs false
set_option maxHeartbeats 1000000
def NewE {α : Type} (E : World → (Nat → Prop) → List Value → α → Prop) (w : World) (x : α) (e : Ending) (w' : World) : Prop := ∃ cs : List Value, e = .returned (.agg cs.toArray) ∧ E w' (w.heap.size ≤ ·) cs x ∧ Below w.heap.size w w'
def NewL {α : Type} (k : Nat) (E : World → (Nat → Prop) → List Value → α → Prop) (w : World) (xs : List α) (e : Ending) (w' : World) : Prop := ∃ a c, e = .returned (.slice a xs.length c) ∧ RowM w' (w.heap.size ≤ ·) k (E w' (w.heap.size ≤ ·)) (.slice a xs.length c) xs ∧ Below w.heap.size w w'
theorem NewE.mk {α : Type} {E : World → (Nat → Prop) → List Value → α → Prop} {w : World} {x : α} {w' : World} (cs : List Value) (h : E w' (w.heap.size ≤ ·) cs x) (hb : Below w.heap.size w w') : NewE E w x (.returned (.agg cs.toArray)) w' := ⟨cs, rfl, h, hb⟩
theorem NewL.mk {α : Type} {k : Nat} {E : World → (Nat → Prop) → List Value → α → Prop} {w : World} {xs : List α} {w' : World} (a : Option Addr) (c n : Nat) (hn : n = xs.length) (h : RowM w' (w.heap.size ≤ ·) k (E w' (w.heap.size ≤ ·)) (.slice a n c) xs) (hb : Below w.heap.size w w') : NewL k E w xs (.returned (.slice a n c)) w' := by
  subst hn
  exact ⟨a, c, rfl, h, hb⟩
abbrev FmF (d : Nat) : World → (Nat → Prop) → List Value → CF CM → Prop := fun w Z => FldE w Z (MsgE w Z d)
abbrev FmV (d : Nat) : World → (Nat → Prop) → List Value → CV CM → Prop := fun w Z => ValE w Z (MsgE w Z d)
abbrev FmM (d : Nat) : World → (Nat → Prop) → List Value → CM → Prop := fun w Z => MsgE w Z d
abbrev FmE : World → (Nat → Prop) → List Value → CE → Prop := fun w Z => EntE w Z
theorem zof_new {α : Type} {w w1 W : World} {base : Nat} {t : TypeId} {k : Nat} {E : World → (Nat → Prop) → List Value → α → Prop} (F : Fam k E) {v : Value} {xs : List α} (h : OwnM w base t k E v xs) (hW : w.heap.size ≤ W.heap.size) (hb : base ≤ w.heap.size) {cs : List Value} {x : α} (hx : E w1 (W.heap.size ≤ ·) cs x) : E w1 (Zof w1 base v) cs x :=
  F.go (F.old hx) (Keep.refl (fun _ => True) w1) (fun _ _ => trivial) (fun b hz => ⟨by have := hz.1; omega, hz.2, fun e => by have := (h.own e).2; have := hz.1; omega⟩)
theorem newBytesT (w : World) (Z : Nat → Prop) (a : Option Addr) (c : Nat) (b : List Int) (h : ByE w Z (.slice a b.length c) b) : Calls Tryz.prog 78 #[.slice a b.length c] w fun e w' => ∃ a' c', e = .returned (.slice a' b.length c') ∧ ByE w' (w.heap.size ≤ ·) (.slice a' b.length c') b ∧ Below w.heap.size w w' := by
  obtain ⟨a', c', w', hr, h1, h2⟩ := appendBy h
  have HR := hid hr
  have H1 := hid h1
  have H2 := hid h2
  clear h hr h1 h2
  go_enter Tryz.func78, Tryz.ntmps78
  go_wp2_with (first | (at_builtin; refine wpList_append_ran rfl _ _ 23 23 rfl rfl _ _ (.slice a' b.length c') w' rfl rfl HR.out ?_))
  go_ret
  exact ⟨a', c', rfl, H1.out, H2.out⟩
theorem msg_openD {w : World} {Z : Nat → Prop} {d : Nat} {cs : List Value} {m : CM} (h : MsgE w Z d cs m) : ∃ fa fc ua uc, cs = [.slice fa m.fs.length fc, .slice ua m.us.length uc] ∧ True := by
  cases d with
  | zero => exact h.elim
  | succ d =>
    obtain ⟨fa, fc, ua, uc, e, _⟩ := msg_open h
    exact ⟨fa, fc, ua, uc, e, trivial⟩
theorem Tryz.infoF : (Tryz.prog.info? 29).map (fun i => (i.zero, i.size, i.bytes)) = some (some (.agg #[.int .i64 0, .slice none 0 0, .slice none 0 0]), 3, 56) := by kernel_rfl
theorem turnedF (w : World) (Z : Nat → Prop) (d d2 : Nat) (xs : List (CF CM)) (a : Option Addr) (c : Nat) (h : FlsR w Z d (.slice a xs.length c) xs) (fn : FuncId) (caps : Array Value) (hcf : ∀ (args : Array Value) (W : World), (callFunc fn args).run Tryz.prog W = .ok (.enter fn args) W) (g : CF CM → CF CM)
    (hf : ∀ (W : World), Below w.heap.size w W → ∀ (cs : List Value) (x : CF CM), x ∈ xs → FmF d W Z cs x → Calls Tryz.prog fn (#[.agg cs.toArray] ++ caps) W (NewE (FmF d2) W (g x))) : Calls Tryz.prog 81 #[.slice a xs.length c, .func (.func fn) #[] caps] w (NewL 3 (FmF d2) w (xs.map g)) := by
  obtain ⟨_, _, e1, l1⟩ := RowM.sl h
  clear e1
  have m1 : (xs.length : Int) ≤ 9223372036854775807 := by omega
  have H1 := hid h
  have HF := hid hf
  clear h hf
  go_enter Tryz.func81, Tryz.ntmps81
  go_wp2
  go_loopw [5, 10] (fun s5 s10 wr => ∃ (j : Nat) (oa : Option Addr) (oc : Nat), s5 = .slice oa j oc ∧ s10 = .int .i64 j ∧ j ≤ xs.length ∧ Hid (OwnM wr w.heap.size 29 3 (FmF d2) (.slice oa j oc) ((xs.take j).map g)) ∧ Hid (Below w.heap.size w wr)) (fun s5 s10 wr => xs.length - numAt wr s10)
  case atStart => exact ⟨0, none, 0, rfl, rfl, by omega, hid (OwnM.nil _ _ _ _ _), hid (Below.refl _ _)⟩
  case round =>
    obtain ⟨j, oa, oc, rfl, rfl, hj, HO, hb⟩ := hrel
    by_cases hlt : j < xs.length
    · have k2 : (j : Int) < (xs.length : Int) := by omega
      obtain ⟨b1, o1, ka1, kc1, va1, vc1, rfl, -, hb1, c0, c1, c2, he⟩ := fls_at (H1.out.kept hb.out) hlt
      have HE := hid he
      have HTK : Hid ((xs.take (j + 1)).map g = (xs.take j).map g ++ [g xs[j]]) := hid (by rw [List.take_succ_eq_append_getElem hlt, List.map_append]; rfl)
      have HLN : Hid (((xs.take j).map g).length = j) := hid (by simp; omega)
      have HME := hid (List.getElem_mem hlt)
      clear he
      generalize xs[j] = x at *
      go_wp2_with fail
      refine (HF.out _ (by have := hb.out; exact blBy) [.int .i64 x.num, .slice ka1 x.ks.length kc1, .slice va1 x.vs.length vc1] x HME.out (Fam.go (famF d) HE.out (keepT (below_alloc _)) (fun _ _ => trivial) (fun _ h => h))).mono ?_
      rintro e w1 ⟨ds, rfl, hn, hbx⟩
      have HZ := hid (zof_new (famF d2) HO.out (by simp) hb.out.size hn)
      have HO1 := hid (HO.out.kept (famF d2) (below_trans (below_alloc _) hbx))
      have hb1 : Hid (Below w.heap.size w w1) := hid (bl_then (by have := hb.out; exact blBy) hbx)
      clear hn hbx HO HE c0 c1 c2
      obtain ⟨ka2, kc2, va2, vc2, rfl, -⟩ := fld_open HZ.out
      generalize g x = y at *
      obtain ⟨la, lc, x1, HRUN, HO2, HG⟩ := OwnM.push (famF d2) 29 32 56 (.agg #[.int .i64 0, .slice none 0 0, .slice none 0 0]) Tryz.underlying32 Tryz.infoF rfl (by decide) (by decide) HO1.out HZ.out hb1.out.size (by rw [HLN.out]; omega)
      rw [HLN.out] at HRUN HO2 HG
      have hb2 : Hid (Below w.heap.size w x1) := hid (hb1.out.trans (HO1.out.bel HG.out (Nat.le_refl _) hb1.out.size))
      go_wp2_with (first | (at_builtin; refine wpList_append_ran rfl _ _ 32 32 rfl rfl _ _ (.slice la (j + 1) lc) x1 rfl rfl HRUN.out ?_))
      exact ⟨⟨j + 1, la, lc, rfl, by simp, by omega, hid (by rw [HTK.out]; exact HO2.out), hb2⟩, by simp [numAt]; omega⟩
    · have k2 : ¬ (j : Int) < (xs.length : Int) := by omega
      have ej : xs.length = j := by omega
      have e1 : xs.take j = xs := List.take_of_length_le (by omega)
      rw [e1] at HO
      have HRW := hid (HO.out.row (famF d2) (by simp; omega))
      have HEJ := hid ej
      clear ej e1
      go_wp2
      go_ret
      exact NewL.mk oa oc j (by simp; exact HEJ.out.symm) HRW.out hb.out
theorem Tryz.infoV : (Tryz.prog.info? 26).map (fun i => (i.zero, i.size, i.bytes)) = some (some (.agg #[.int .u64 0, .slice none 0 0, .slice none 0 0]), 3, 56) := by kernel_rfl
theorem turnedV (w : World) (Z : Nat → Prop) (d d2 : Nat) (xs : List (CV CM)) (a : Option Addr) (c : Nat) (h : VlsR w Z d (.slice a xs.length c) xs) (fn : FuncId) (caps : Array Value) (hcf : ∀ (args : Array Value) (W : World), (callFunc fn args).run Tryz.prog W = .ok (.enter fn args) W) (g : CV CM → CV CM)
    (hf : ∀ (W : World), Below w.heap.size w W → ∀ (cs : List Value) (x : CV CM), x ∈ xs → FmV d W Z cs x → Calls Tryz.prog fn (#[.agg cs.toArray] ++ caps) W (NewE (FmV d2) W (g x))) : Calls Tryz.prog 80 #[.slice a xs.length c, .func (.func fn) #[] caps] w (NewL 3 (FmV d2) w (xs.map g)) := by
  obtain ⟨_, _, e1, l1⟩ := RowM.sl h
  clear e1
  have m1 : (xs.length : Int) ≤ 9223372036854775807 := by omega
  have H1 := hid h
  have HF := hid hf
  clear h hf
  go_enter Tryz.func80, Tryz.ntmps80
  go_wp2
  go_loopw [5, 10] (fun s5 s10 wr => ∃ (j : Nat) (oa : Option Addr) (oc : Nat), s5 = .slice oa j oc ∧ s10 = .int .i64 j ∧ j ≤ xs.length ∧ Hid (OwnM wr w.heap.size 26 3 (FmV d2) (.slice oa j oc) ((xs.take j).map g)) ∧ Hid (Below w.heap.size w wr)) (fun s5 s10 wr => xs.length - numAt wr s10)
  case atStart => exact ⟨0, none, 0, rfl, rfl, by omega, hid (OwnM.nil _ _ _ _ _), hid (Below.refl _ _)⟩
  case round =>
    obtain ⟨j, oa, oc, rfl, rfl, hj, HO, hb⟩ := hrel
    by_cases hlt : j < xs.length
    · have k2 : (j : Int) < (xs.length : Int) := by omega
      obtain ⟨b1, o1, ka1, kc1, va1, vc1, rfl, -, hb1, c0, c1, c2, he⟩ := vls_at (H1.out.kept hb.out) hlt
      have HE := hid he
      have HTK : Hid ((xs.take (j + 1)).map g = (xs.take j).map g ++ [g xs[j]]) := hid (by rw [List.take_succ_eq_append_getElem hlt, List.map_append]; rfl)
      have HLN : Hid (((xs.take j).map g).length = j) := hid (by simp; omega)
      have HME := hid (List.getElem_mem hlt)
      clear he
      generalize xs[j] = x at *
      go_wp2_with fail
      refine (HF.out _ (by have := hb.out; exact blBy) [.int .u64 x.n, .slice ka1 x.b.length kc1, .slice va1 x.ms.length vc1] x HME.out (Fam.go (famV d) HE.out (keepT (below_alloc _)) (fun _ _ => trivial) (fun _ h => h))).mono ?_
      rintro e w1 ⟨ds, rfl, hn, hbx⟩
      have HZ := hid (zof_new (famV d2) HO.out (by simp) hb.out.size hn)
      have HO1 := hid (HO.out.kept (famV d2) (below_trans (below_alloc _) hbx))
      have hb1 : Hid (Below w.heap.size w w1) := hid (bl_then (by have := hb.out; exact blBy) hbx)
      clear hn hbx HO HE c0 c1 c2
      obtain ⟨ka2, kc2, va2, vc2, rfl, -⟩ := val_open HZ.out
      generalize g x = y at *
      obtain ⟨la, lc, x1, HRUN, HO2, HG⟩ := OwnM.push (famV d2) 26 27 56 (.agg #[.int .u64 0, .slice none 0 0, .slice none 0 0]) Tryz.underlying27 Tryz.infoV rfl (by decide) (by decide) HO1.out HZ.out hb1.out.size (by rw [HLN.out]; omega)
      rw [HLN.out] at HRUN HO2 HG
      have hb2 : Hid (Below w.heap.size w x1) := hid (hb1.out.trans (HO1.out.bel HG.out (Nat.le_refl _) hb1.out.size))
      go_wp2_with (first | (at_builtin; refine wpList_append_ran rfl _ _ 27 27 rfl rfl _ _ (.slice la (j + 1) lc) x1 rfl rfl HRUN.out ?_))
      exact ⟨⟨j + 1, la, lc, rfl, by simp, by omega, hid (by rw [HTK.out]; exact HO2.out), hb2⟩, by simp [numAt]; omega⟩
    · have k2 : ¬ (j : Int) < (xs.length : Int) := by omega
      have ej : xs.length = j := by omega
      have e1 : xs.take j = xs := List.take_of_length_le (by omega)
      rw [e1] at HO
      have HRW := hid (HO.out.row (famV d2) (by simp; omega))
      have HEJ := hid ej
      clear ej e1
      go_wp2
      go_ret
      exact NewL.mk oa oc j (by simp; exact HEJ.out.symm) HRW.out hb.out
theorem Tryz.infoM : (Tryz.prog.info? 35).map (fun i => (i.zero, i.size, i.bytes)) = some (some (.agg #[.slice none 0 0, .slice none 0 0]), 2, 48) := by kernel_rfl
theorem turnedM (w : World) (Z : Nat → Prop) (d d2 : Nat) (xs : List (CM)) (a : Option Addr) (c : Nat) (h : MgsR w Z d (.slice a xs.length c) xs) (fn : FuncId) (caps : Array Value) (hcf : ∀ (args : Array Value) (W : World), (callFunc fn args).run Tryz.prog W = .ok (.enter fn args) W) (g : CM → CM)
    (hf : ∀ (W : World), Below w.heap.size w W → ∀ (cs : List Value) (x : CM), x ∈ xs → FmM d W Z cs x → Calls Tryz.prog fn (#[.agg cs.toArray] ++ caps) W (NewE (FmM d2) W (g x))) : Calls Tryz.prog 79 #[.slice a xs.length c, .func (.func fn) #[] caps] w (NewL 2 (FmM d2) w (xs.map g)) := by
  obtain ⟨_, _, e1, l1⟩ := RowM.sl h
  clear e1
  have m1 : (xs.length : Int) ≤ 9223372036854775807 := by omega
  have H1 := hid h
  have HF := hid hf
  clear h hf
  go_enter Tryz.func79, Tryz.ntmps79
  go_wp2
  go_loopw [5, 10] (fun s5 s10 wr => ∃ (j : Nat) (oa : Option Addr) (oc : Nat), s5 = .slice oa j oc ∧ s10 = .int .i64 j ∧ j ≤ xs.length ∧ Hid (OwnM wr w.heap.size 35 2 (FmM d2) (.slice oa j oc) ((xs.take j).map g)) ∧ Hid (Below w.heap.size w wr)) (fun s5 s10 wr => xs.length - numAt wr s10)
  case atStart => exact ⟨0, none, 0, rfl, rfl, by omega, hid (OwnM.nil _ _ _ _ _), hid (Below.refl _ _)⟩
  case round =>
    obtain ⟨j, oa, oc, rfl, rfl, hj, HO, hb⟩ := hrel
    by_cases hlt : j < xs.length
    · have k2 : (j : Int) < (xs.length : Int) := by omega
      obtain ⟨b1, o1, ka1, kc1, va1, vc1, rfl, -, hb1, c0, c1, he⟩ := mgs_at' (H1.out.kept hb.out) hlt
      have HE := hid he
      have HTK : Hid ((xs.take (j + 1)).map g = (xs.take j).map g ++ [g xs[j]]) := hid (by rw [List.take_succ_eq_append_getElem hlt, List.map_append]; rfl)
      have HLN : Hid (((xs.take j).map g).length = j) := hid (by simp; omega)
      have HME := hid (List.getElem_mem hlt)
      clear he
      generalize xs[j] = x at *
      go_wp2_with fail
      refine (HF.out _ (by have := hb.out; exact blBy) [.slice ka1 x.fs.length kc1, .slice va1 x.us.length vc1] x HME.out (Fam.go (famM d) HE.out (keepT (below_alloc _)) (fun _ _ => trivial) (fun _ h => h))).mono ?_
      rintro e w1 ⟨ds, rfl, hn, hbx⟩
      have HZ := hid (zof_new (famM d2) HO.out (by simp) hb.out.size hn)
      have HO1 := hid (HO.out.kept (famM d2) (below_trans (below_alloc _) hbx))
      have hb1 : Hid (Below w.heap.size w w1) := hid (bl_then (by have := hb.out; exact blBy) hbx)
      clear hn hbx HO HE c0 c1
      obtain ⟨ka2, kc2, va2, vc2, rfl, -⟩ := msg_openD HZ.out
      generalize g x = y at *
      obtain ⟨la, lc, x1, HRUN, HO2, HG⟩ := OwnM.push (famM d2) 35 24 48 (.agg #[.slice none 0 0, .slice none 0 0]) Tryz.underlying24 Tryz.infoM rfl (by decide) (by decide) HO1.out HZ.out hb1.out.size (by rw [HLN.out]; omega)
      rw [HLN.out] at HRUN HO2 HG
      have hb2 : Hid (Below w.heap.size w x1) := hid (hb1.out.trans (HO1.out.bel HG.out (Nat.le_refl _) hb1.out.size))
      go_wp2_with (first | (at_builtin; refine wpList_append_ran rfl _ _ 24 24 rfl rfl _ _ (.slice la (j + 1) lc) x1 rfl rfl HRUN.out ?_))
      exact ⟨⟨j + 1, la, lc, rfl, by simp, by omega, hid (by rw [HTK.out]; exact HO2.out), hb2⟩, by simp [numAt]; omega⟩
    · have k2 : ¬ (j : Int) < (xs.length : Int) := by omega
      have ej : xs.length = j := by omega
      have e1 : xs.take j = xs := List.take_of_length_le (by omega)
      rw [e1] at HO
      have HRW := hid (HO.out.row (famM d2) (by simp; omega))
      have HEJ := hid ej
      clear ej e1
      go_wp2
      go_ret
      exact NewL.mk oa oc j (by simp; exact HEJ.out.symm) HRW.out hb.out
theorem Tryz.infoE : (Tryz.prog.info? 40).map (fun i => (i.zero, i.size, i.bytes)) = some (some (.agg #[.int .i64 0, .int .i64 0, .int .u64 0, .slice none 0 0]), 4, 48) := by kernel_rfl
theorem turnedE (w : World) (Z : Nat → Prop) (xs : List (CE)) (a : Option Addr) (c : Nat) (h : EnsR w Z (.slice a xs.length c) xs) (fn : FuncId) (caps : Array Value) (hcf : ∀ (args : Array Value) (W : World), (callFunc fn args).run Tryz.prog W = .ok (.enter fn args) W) (g : CE → CE)
    (hf : ∀ (W : World), Below w.heap.size w W → ∀ (cs : List Value) (x : CE), x ∈ xs → FmE W Z cs x → Calls Tryz.prog fn (#[.agg cs.toArray] ++ caps) W (NewE (FmE) W (g x))) : Calls Tryz.prog 82 #[.slice a xs.length c, .func (.func fn) #[] caps] w (NewL 4 (FmE) w (xs.map g)) := by
  obtain ⟨_, _, e1, l1⟩ := RowM.sl h
  clear e1
  have m1 : (xs.length : Int) ≤ 9223372036854775807 := by omega
  have H1 := hid h
  have HF := hid hf
  clear h hf
  go_enter Tryz.func82, Tryz.ntmps82
  go_wp2
  go_loopw [5, 10] (fun s5 s10 wr => ∃ (j : Nat) (oa : Option Addr) (oc : Nat), s5 = .slice oa j oc ∧ s10 = .int .i64 j ∧ j ≤ xs.length ∧ Hid (OwnM wr w.heap.size 40 4 (FmE) (.slice oa j oc) ((xs.take j).map g)) ∧ Hid (Below w.heap.size w wr)) (fun s5 s10 wr => xs.length - numAt wr s10)
  case atStart => exact ⟨0, none, 0, rfl, rfl, by omega, hid (OwnM.nil _ _ _ _ _), hid (Below.refl _ _)⟩
  case round =>
    obtain ⟨j, oa, oc, rfl, rfl, hj, HO, hb⟩ := hrel
    by_cases hlt : j < xs.length
    · have k2 : (j : Int) < (xs.length : Int) := by omega
      obtain ⟨b1, o1, ka1, kc1, rfl, -, hb1, c0, c1, c2, c3, he⟩ := ens_at (H1.out.kept hb.out) hlt
      have HE := hid he
      have HTK : Hid ((xs.take (j + 1)).map g = (xs.take j).map g ++ [g xs[j]]) := hid (by rw [List.take_succ_eq_append_getElem hlt, List.map_append]; rfl)
      have HLN : Hid (((xs.take j).map g).length = j) := hid (by simp; omega)
      have HME := hid (List.getElem_mem hlt)
      clear he
      generalize xs[j] = x at *
      go_wp2_with fail
      refine (HF.out _ (by have := hb.out; exact blBy) [.int .i64 x.num, .int .i64 x.kind, .int .u64 x.n, .slice ka1 x.b.length kc1] x HME.out (Fam.go (famE) HE.out (keepT (below_alloc _)) (fun _ _ => trivial) (fun _ h => h))).mono ?_
      rintro e w1 ⟨ds, rfl, hn, hbx⟩
      have HZ := hid (zof_new (famE) HO.out (by simp) hb.out.size hn)
      have HO1 := hid (HO.out.kept (famE) (below_trans (below_alloc _) hbx))
      have hb1 : Hid (Below w.heap.size w w1) := hid (bl_then (by have := hb.out; exact blBy) hbx)
      clear hn hbx HO HE c0 c1 c2 c3
      obtain ⟨ka2, kc2, rfl, -⟩ := ent_open HZ.out
      generalize g x = y at *
      obtain ⟨la, lc, x1, HRUN, HO2, HG⟩ := OwnM.push (famE) 40 33 48 (.agg #[.int .i64 0, .int .i64 0, .int .u64 0, .slice none 0 0]) Tryz.underlying33 Tryz.infoE rfl (by decide) (by decide) HO1.out HZ.out hb1.out.size (by rw [HLN.out]; omega)
      rw [HLN.out] at HRUN HO2 HG
      have hb2 : Hid (Below w.heap.size w x1) := hid (hb1.out.trans (HO1.out.bel HG.out (Nat.le_refl _) hb1.out.size))
      go_wp2_with (first | (at_builtin; refine wpList_append_ran rfl _ _ 33 33 rfl rfl _ _ (.slice la (j + 1) lc) x1 rfl rfl HRUN.out ?_))
      exact ⟨⟨j + 1, la, lc, rfl, by simp, by omega, hid (by rw [HTK.out]; exact HO2.out), hb2⟩, by simp [numAt]; omega⟩
    · have k2 : ¬ (j : Int) < (xs.length : Int) := by omega
      have ej : xs.length = j := by omega
      have e1 : xs.take j = xs := List.take_of_length_le (by omega)
      rw [e1] at HO
      have HRW := hid (HO.out.row (famE) (by simp; omega))
      have HEJ := hid ej
      clear ej e1
      go_wp2
      go_ret
      exact NewL.mk oa oc j (by simp; exact HEJ.out.symm) HRW.out hb.out
set_option maxHeartbeats 2000000
theorem kpS {f : Nat → Prop} {w W : World} {a : Addr} {v : Value} (h : Keep f w W) (ha : ¬ f a.block) : Keep f w (W.setCell a v) := h.trans (Keep.setCell _ _ _ ha)
theorem kpA {f : Nat → Prop} {w W : World} (h : Keep f w W) (o : Obj) : Keep f w (W.alloc o) := h.trans (Keep.ofBelow (below_alloc o))
theorem kpD {f : Nat → Prop} {w W : World} (h : Keep f w W) : Keep f w W.drew := h.trans (Keep.ofBelow (below_drew1 W))
theorem kpN {f : Nat → Prop} {w W : World} (h : Keep f w W) (n : Nat) : Keep f w (W.drewN n) := h.trans (Keep.ofBelow (below_drewN W n))
theorem newEntryT (w : World) (Z : Nat → Prop) (cs : List Value) (x : CE) (h : EntE w Z cs x) : Calls Tryz.prog 83 #[.agg cs.toArray] w (NewE FmE w x) := by
  obtain ⟨ka, kc, rfl, g, -, u1, u2, u3⟩ := ent_open h
  have G := hid g
  have U := hid (And.intro u1 (And.intro u2 u3))
  clear g h u1 u2 u3
  go_enter Tryz.func83, Tryz.ntmps83
  go_wp2_with fail
  refine (newBytesT _ Z ka kc x.b (G.out.kept (by exact blBy))).mono ?_
  rintro e w1 ⟨a1, c1, rfl, hn, hbx⟩
  have Bx : Blk w1 w.heap.size 40 #[.int .i64 x.num, .int .i64 x.kind, .int .u64 x.n, .slice ka x.b.length kc] := ((Blk.new _ _ _).kept (below_alloc _)).kept hbx
  have Br : Blk w1 (w.heap.size + 1) 40 #[.int .i64 0, .int .i64 0, .int .u64 0, .slice none 0 0] := (Blk.newAt (by simp)).kept hbx
  have HN : Hid (ByE w1 (w.heap.size + 2 ≤ ·) (.slice a1 x.b.length c1) x.b) := hid (hn.weak (fun k hk => by simpa using hk))
  have hbz : Hid (Below w.heap.size w w1) := hid (bl_then (by exact blBy) hbx)
  clear hbx hn
  have xx := Bx.cellF
  have yx := Bx.frz
  have zx := Bx.lt
  have xr := Br.cellF
  have yr := Br.frz
  have zr := Br.lt
  go_wp2
  exact bodyPost_ret (v := .agg #[.int .i64 x.num, .int .i64 x.kind, .int .u64 x.n, .slice a1 x.b.length c1]) (by simp [results, Tryz.results83, go_sem, xr, zr, yr, xx, yx, zx]) rfl (NewE.mk [.int .i64 x.num, .int .i64 x.kind, .int .u64 x.n, .slice a1 x.b.length c1] ⟨_, rfl, (HN.out.keep (f := (w.heap.size + 2 ≤ ·)) (by with_reducible repeat (first | exact Keep.refl _ _ | refine kpS ?_ (by first | (simp; done) | (simp; omega) | omega) | refine kpA ?_ _ | refine kpD ?_ | refine kpN ?_ _)) (fun _ h => h)).weak (fun k hk => by omega), U.out⟩ (by have := hbz.out; exact blBy))
def CpAt (d : Nat) : Prop := ∀ (w : World) (Z : Nat → Prop) (cs : List Value) (m : CM), MsgE w Z d cs m → Calls Tryz.prog 62 #[.agg #[], .agg cs.toArray, .func (.func 60) #[] #[], .func (.func 61) #[] #[]] w (NewE (FmM d) w m)
structure CpB (w : World) (p4 p6 p7 : Nat) : Prop where
  k : Blk w p4 104 #[]
  s : Blk w p6 105 #[.func (.func 60) #[] #[]]
  b : Blk w p7 106 #[.func (.func 61) #[] #[]]
theorem CpB.kept {w w' : World} {p4 p6 p7 : Nat} (h : CpB w p4 p6 p7) (hb : Below w.heap.size w w') : CpB w' p4 p6 p7 := ⟨h.k.kept hb, h.s.kept hb, h.b.kept hb⟩
theorem newMsgT (d : Nat) (HC : CpAt d) (w : World) (Z : Nat → Prop) (cs : List Value) (m : CM) (h : MsgE w Z d cs m) (p4 p6 p7 : Nat) (hB : CpB w p4 p6 p7) : Calls Tryz.prog 110 #[.agg cs.toArray, .pointer (some ⟨p4, 0, none⟩), .pointer (some ⟨p6, 0, none⟩), .pointer (some ⟨p7, 0, none⟩)] w (NewE (FmM d) w m) := by
  obtain ⟨ka, kc, va, vc, rfl, -⟩ := msg_openD h
  have H := hid h
  replace HC := hid HC
  have xs := hB.s.cellF
  have zs := hB.s.lt
  have xb := hB.b.cellF
  have zb := hB.b.lt
  have zk := hB.k.lt
  clear h hB
  go_enter Tryz.func110, Tryz.ntmps110
  go_wp2_with fail
  refine (HC.out _ Z [.slice ka m.fs.length kc, .slice va m.us.length vc] m (H.out.kept (by exact blBy))).mono ?_
  rintro e w1 ⟨ds, rfl, hn, hbx⟩
  have Br : Blk w1 (w.heap.size + 1) 35 #[.slice none 0 0, .slice none 0 0] := (Blk.newAt (by simp)).kept hbx
  have HN : Hid (MsgE w1 (w.heap.size + 2 ≤ ·) d ds m) := hid (MsgE.go (Keep.refl (fun _ => True) w1) (fun _ _ => trivial) (fun k hk => by simpa using hk) d _ _ hn)
  have hbz : Hid (Below w.heap.size w w1) := hid (bl_then (by exact blBy) hbx)
  clear hbx hn xs zs xb zb zk
  obtain ⟨fa, fc, ua, uc, rfl, -⟩ := msg_openD HN.out
  have xr := Br.cellF
  have yr := Br.frz
  have zr := Br.lt
  go_wp2
  exact bodyPost_ret (v := .agg #[.slice fa m.fs.length fc, .slice ua m.us.length uc]) (by simp [results, Tryz.results110, go_sem, xr, zr, yr]) rfl (NewE.mk [.slice fa m.fs.length fc, .slice ua m.us.length uc] (MsgE.go (f := (w.heap.size + 2 ≤ ·)) (by with_reducible repeat (first | exact Keep.refl _ _ | refine kpS ?_ (by first | (simp; done) | (simp; omega) | omega) | refine kpA ?_ _ | refine kpD ?_ | refine kpN ?_ _)) (fun _ h => h) (fun k hk => by omega) d _ _ HN.out) (by have := hbz.out; exact blBy))
theorem MgsR.go {w w' : World} {Z Z' f : Nat → Prop} {d : Nat} {v : Value} {xs : List CM} (h : MgsR w Z d v xs) (g : Keep f w w') (hf : ∀ k, Z k → f k) (hz : ∀ k, Z k → Z' k) : MgsR w' Z' d v xs := ((RowM.keep h g hf).weak hz).imp (fun cs m _ hm => MsgE.go g hf hz d cs m hm)
theorem VlsR.go {w w' : World} {Z Z' f : Nat → Prop} {d : Nat} {v : Value} {xs : List (CV CM)} (h : VlsR w Z d v xs) (g : Keep f w w') (hf : ∀ k, Z k → f k) (hz : ∀ k, Z k → Z' k) : VlsR w' Z' d v xs := ((RowM.keep h g hf).weak hz).imp (fun cs m _ hm => (famV d).go hm g hf hz)
theorem FlsR.go {w w' : World} {Z Z' f : Nat → Prop} {d : Nat} {v : Value} {xs : List (CF CM)} (h : FlsR w Z d v xs) (g : Keep f w w') (hf : ∀ k, Z k → f k) (hz : ∀ k, Z k → Z' k) : FlsR w' Z' d v xs := ((RowM.keep h g hf).weak hz).imp (fun cs m _ hm => (famF d).go hm g hf hz)
theorem EnsR.go {w w' : World} {Z Z' f : Nat → Prop} {v : Value} {xs : List CE} (h : EnsR w Z v xs) (g : Keep f w w') (hf : ∀ k, Z k → f k) (hz : ∀ k, Z k → Z' k) : EnsR w' Z' v xs := ((RowM.keep h g hf).weak hz).imp (fun cs m _ hm => famE.go hm g hf hz)
theorem cs1 {W : World} {b o p q : Nat} {v u : Value} (h : W.cell? ⟨b, o, none⟩ = some v) (hb : b ≠ p) : (W.setCell ⟨p, q, none⟩ u).cell? ⟨b, o, none⟩ = some v := by
  rw [World.cell?_setCell_other _ _ _ _ (fun e => hb (by injection e with e1; exact e1.symm))]
  exact h
theorem cs2 {W : World} {b o p q1 q2 : Nat} {v u1 u2 : Value} (h : W.cell? ⟨b, o, none⟩ = some v) (hb : b ≠ p) : ((W.setCell ⟨p, q1, none⟩ u1).setCell ⟨p, q2, none⟩ u2).cell? ⟨b, o, none⟩ = some v := cs1 (cs1 h hb) hb
theorem cs3 {W : World} {b o p q1 q2 q3 : Nat} {v u1 u2 u3 : Value} (h : W.cell? ⟨b, o, none⟩ = some v) (hb : b ≠ p) : (((W.setCell ⟨p, q1, none⟩ u1).setCell ⟨p, q2, none⟩ u2).setCell ⟨p, q3, none⟩ u3).cell? ⟨b, o, none⟩ = some v := cs1 (cs2 h hb) hb
theorem cf_enter {f : FuncId} {fn : Func} (hf : Tryz.prog.funcs[f]? = some fn) (hname : (fn.name == "runtime.NumGoroutine") = false) (hb : fn.body.isNone = false) (args : Array Value) (W : World) : (callFunc f args).run Tryz.prog W = .ok (.enter f args) W := by
  unfold callFunc
  simp only [Sem.run_bind, run_program, Result.andThen_ok, hf, hname, hb, Bool.false_eq_true, if_false, Sem.run_pure]
theorem cfM (args : Array Value) (W : World) : (callFunc 110 args).run Tryz.prog W = .ok (.enter 110 args) W := cf_enter Tryz.func110 (by kernel_rfl) (by kernel_rfl) args W
theorem cfV (args : Array Value) (W : World) : (callFunc 111 args).run Tryz.prog W = .ok (.enter 111 args) W := cf_enter Tryz.func111 (by kernel_rfl) (by kernel_rfl) args W
theorem cfF (args : Array Value) (W : World) : (callFunc 109 args).run Tryz.prog W = .ok (.enter 109 args) W := cf_enter Tryz.func109 (by kernel_rfl) (by kernel_rfl) args W
theorem cfE (args : Array Value) (W : World) : (callFunc 83 args).run Tryz.prog W = .ok (.enter 83 args) W := cf_enter Tryz.func83 (by kernel_rfl) (by kernel_rfl) args W
theorem newValT (d : Nat) (HC : CpAt d) (w : World) (Z : Nat → Prop) (cs : List Value) (x : CV CM) (h : ValE w Z (MsgE w Z d) cs x) (p4 p6 p7 p8 : Nat) (hB : CpB w p4 p6 p7) (hN : Blk w p8 57 #[.func (.func 110) #[] #[.pointer (some ⟨p4, 0, none⟩), .pointer (some ⟨p6, 0, none⟩), .pointer (some ⟨p7, 0, none⟩)]]) : Calls Tryz.prog 111 #[.agg cs.toArray, .pointer (some ⟨p8, 0, none⟩)] w (NewE (FmV d) w x) := by
  obtain ⟨ka, kc, va, vc, rfl, g, q, -, -, hu⟩ := val_open h
  have HBY : Hid (∀ W, Below w.heap.size w W → Calls Tryz.prog 78 #[.slice ka x.b.length kc] W fun e w' => ∃ a' c', e = .returned (.slice a' x.b.length c') ∧ ByE w' (W.heap.size ≤ ·) (.slice a' x.b.length c') x.b ∧ Below W.heap.size W w') := hid fun W hW => newBytesT W Z ka kc x.b (g.kept hW)
  have HMG : Hid (∀ W, Below w.heap.size w W → Calls Tryz.prog 79 #[.slice va x.ms.length vc, .func (.func 110) #[] #[.pointer (some ⟨p4, 0, none⟩), .pointer (some ⟨p6, 0, none⟩), .pointer (some ⟨p7, 0, none⟩)]] W (NewL 2 (FmM d) W x.ms)) := hid fun W hW => by
    have := turnedM W Z d d x.ms va vc (q.kept hW) 110 #[.pointer (some ⟨p4, 0, none⟩), .pointer (some ⟨p6, 0, none⟩), .pointer (some ⟨p7, 0, none⟩)] cfM id (fun W' hW' cs m _ hm => newMsgT d HC W' Z cs m hm p4 p6 p7 (hB.kept (below_trans hW hW')))
    rw [List.map_id] at this
    exact this
  have HU := hid hu
  have f3 : w.cell? ⟨p8, 0, none⟩ = some (.func (.func 110) #[] #[.pointer (some ⟨p4, 0, none⟩), .pointer (some ⟨p6, 0, none⟩), .pointer (some ⟨p7, 0, none⟩)]) := hN.cell 0 _ rfl
  have z8 := hN.lt
  clear h hB hN g q hu HC
  go_enter Tryz.func111, Tryz.ntmps111
  go_upto_region 1 with fail
  have Bx : Blk ((w.alloc (.cells #[.int .u64 x.n, .slice ka x.b.length kc, .slice va x.ms.length vc] 26)).alloc (.cells #[.int .u64 0, .slice none 0 0, .slice none 0 0] 26)) w.heap.size 26 #[.int .u64 x.n, .slice ka x.b.length kc, .slice va x.ms.length vc] := (Blk.new _ _ _).kept (below_alloc _)
  have Br : Blk ((w.alloc (.cells #[.int .u64 x.n, .slice ka x.b.length kc, .slice va x.ms.length vc] 26)).alloc (.cells #[.int .u64 0, .slice none 0 0, .slice none 0 0] 26)) (w.heap.size + 1) 26 #[.int .u64 0, .slice none 0 0, .slice none 0 0] := Blk.newAt (by simp)
  replace f3 := cell_below f3 (by exact blBy : Below w.heap.size w ((w.alloc (.cells #[.int .u64 x.n, .slice ka x.b.length kc, .slice va x.ms.length vc] 26)).alloc (.cells #[.int .u64 0, .slice none 0 0, .slice none 0 0] 26)))
  have HB : Hid (Below w.heap.size w ((w.alloc (.cells #[.int .u64 x.n, .slice ka x.b.length kc, .slice va x.ms.length vc] 26)).alloc (.cells #[.int .u64 0, .slice none 0 0, .slice none 0 0] 26))) := hid (by exact blBy)
  have hsz : w.heap.size + 2 ≤ ((w.alloc (.cells #[.int .u64 x.n, .slice ka x.b.length kc, .slice va x.ms.length vc] 26)).alloc (.cells #[.int .u64 0, .slice none 0 0, .slice none 0 0] 26)).heap.size := by simp
  generalize ((w.alloc (.cells #[.int .u64 x.n, .slice ka x.b.length kc, .slice va x.ms.length vc] 26)).alloc (.cells #[.int .u64 0, .slice none 0 0, .slice none 0 0] 26)) = W at *
  have f0 : W.cell? ⟨w.heap.size, 0, none⟩ = some (.int .u64 x.n) := Bx.cell 0 _ rfl
  have f1 : W.cell? ⟨w.heap.size, 1, none⟩ = some (.slice ka x.b.length kc) := Bx.cell 1 _ rfl
  have f2 : W.cell? ⟨w.heap.size, 2, none⟩ = some (.slice va x.ms.length vc) := Bx.cell 2 _ rfl
  have hp1 : w.heap.size ≠ w.heap.size + 1 := by omega
  have hp2 : p8 ≠ w.heap.size + 1 := by omega
  clear Bx z8
  have HS := hid hsz
  clear hsz
  have xr := Br.cellF
  have yr := Br.frz
  have zr := Br.lt
  go_region_held3 (fun W => W.cell? ⟨w.heap.size, 0, none⟩ = some (.int .u64 x.n) ∧ W.cell? ⟨w.heap.size, 1, none⟩ = some (.slice ka x.b.length kc) ∧ W.cell? ⟨w.heap.size, 2, none⟩ = some (.slice va x.ms.length vc) ∧ W.cell? ⟨p8, 0, none⟩ = some (.func (.func 110) #[] #[.pointer (some ⟨p4, 0, none⟩), .pointer (some ⟨p6, 0, none⟩), .pointer (some ⟨p7, 0, none⟩)])) (first | exact ⟨f0, f1, f2, f3⟩ | exact ⟨cs3 f0 hp1, cs3 f1 hp1, cs3 f2 hp1, cs3 f3 hp2⟩) (first | (go_at_call 78; refine (HBY.out _ (by have := HB.out; exact blBy)).mono ?_; rintro e w1 ⟨a1, c1, rfl, hn, hbx⟩; replace f0 := cell_below f0 (below_trans (by first | exact Below.refl _ _ | exact below_drew1 _ | exact below_drewN _ _) hbx); replace f1 := cell_below f1 (below_trans (by first | exact Below.refl _ _ | exact below_drew1 _ | exact below_drewN _ _) hbx); replace f2 := cell_below f2 (below_trans (by first | exact Below.refl _ _ | exact below_drew1 _ | exact below_drewN _ _) hbx); replace f3 := cell_below f3 (below_trans (by first | exact Below.refl _ _ | exact below_drew1 _ | exact below_drewN _ _) hbx); replace Br := Br.kept (below_trans (by first | exact Below.refl _ _ | exact below_drew1 _ | exact below_drewN _ _) hbx); replace xr := Br.cellF; replace yr := Br.frz; replace zr := Br.lt; replace HB := hid (below_trans HB.out (below_trans (by first | exact Below.refl _ _ | exact below_drew1 _ | exact below_drewN _ _) hbx)); have H1 : Hid (ByE w1 (w.heap.size + 2 ≤ ·) (.slice a1 x.b.length c1) x.b) := hid (hn.weak (fun k hk => Nat.le_trans HS.out hk)); (try replace H2 := hid (MgsR.kept H2.out (below_trans (by first | exact Below.refl _ _ | exact below_drew1 _ | exact below_drewN _ _) hbx))); replace HS := hid (Nat.le_trans HS.out (Below.size (below_trans (by first | exact Below.refl _ _ | exact below_drew1 _ | exact below_drewN _ _) hbx))); clear hn hbx) | (go_at_call 79; refine (HMG.out _ (by have := HB.out; exact blBy)).mono ?_; rintro e w2 ⟨a2, c2, rfl, hn, hbx⟩; replace f0 := cell_below f0 (below_trans (by first | exact Below.refl _ _ | exact below_drew1 _ | exact below_drewN _ _) hbx); replace f1 := cell_below f1 (below_trans (by first | exact Below.refl _ _ | exact below_drew1 _ | exact below_drewN _ _) hbx); replace f2 := cell_below f2 (below_trans (by first | exact Below.refl _ _ | exact below_drew1 _ | exact below_drewN _ _) hbx); replace f3 := cell_below f3 (below_trans (by first | exact Below.refl _ _ | exact below_drew1 _ | exact below_drewN _ _) hbx); replace Br := Br.kept (below_trans (by first | exact Below.refl _ _ | exact below_drew1 _ | exact below_drewN _ _) hbx); replace xr := Br.cellF; replace yr := Br.frz; replace zr := Br.lt; replace HB := hid (below_trans HB.out (below_trans (by first | exact Below.refl _ _ | exact below_drew1 _ | exact below_drewN _ _) hbx)); have H2 : Hid (MgsR w2 (w.heap.size + 2 ≤ ·) d (.slice a2 x.ms.length c2) x.ms) := hid ((hn.weak (fun k hk => Nat.le_trans HS.out hk)).imp (fun cs m _ hm => MsgE.go (Keep.refl (fun _ => True) w2) (fun _ _ => trivial) (fun k hk => Nat.le_trans HS.out hk) d _ _ hm)); (try replace H1 := hid (H1.out.kept (below_trans (by first | exact Below.refl _ _ | exact below_drew1 _ | exact below_drewN _ _) hbx))); replace HS := hid (Nat.le_trans HS.out (Below.size (below_trans (by first | exact Below.refl _ _ | exact below_drew1 _ | exact below_drewN _ _) hbx))); clear hn hbx))
  all_goals go_wp2
  all_goals exact bodyPost_ret (v := .agg #[.int .u64 x.n, .slice a1 x.b.length c1, .slice a2 x.ms.length c2]) (by simp [results, Tryz.results111, go_sem, xr, zr, yr]) rfl (NewE.mk [.int .u64 x.n, .slice a1 x.b.length c1, .slice a2 x.ms.length c2] ⟨_, _, rfl, (H1.out.keep (f := (w.heap.size + 2 ≤ ·)) (by with_reducible repeat (first | exact Keep.refl _ _ | refine kpS ?_ (by first | (simp; done) | (simp; omega) | omega) | refine kpA ?_ _ | refine kpD ?_ | refine kpN ?_ _)) (fun _ h => h)).weak (fun k hk => by omega), MgsR.go H2.out (f := (w.heap.size + 2 ≤ ·)) (by with_reducible repeat (first | exact Keep.refl _ _ | refine kpS ?_ (by first | (simp; done) | (simp; omega) | omega) | refine kpA ?_ _ | refine kpD ?_ | refine kpN ?_ _)) (fun _ h => h) (fun k hk => by omega), HU.out⟩ (by have := HB.out; exact blBy))
theorem nothingT (w : World) (cs : List Value) (x : CF CM) (Z : Nat → Prop) (d : Nat) (h : FldE w Z (MsgE w Z d) cs x) : Calls Tryz.prog 61 #[.agg #[], .agg cs.toArray] w fun e w' => e = .returned (.agg #[]) ∧ Below w.heap.size w w' := by
  obtain ⟨ka, kc, va, vc, rfl, -⟩ := fld_open h
  clear h
  go_enter Tryz.func61, Tryz.ntmps61
  go_wp2
  exact bodyPost_ret (v := .agg #[]) (by simp [results, Tryz.results61, go_sem]) rfl ⟨rfl, by exact blBy⟩
theorem wholeT (w : World) (cs : List Value) (m : CM) (Z : Nat → Prop) (d : Nat) (h : MsgE w Z d cs m) : Calls Tryz.prog 60 #[.agg #[], .agg cs.toArray] w fun e w' => e = .returned (.agg cs.toArray) ∧ Below w.heap.size w w' := by
  obtain ⟨ka, kc, va, vc, rfl, -⟩ := msg_openD h
  clear h
  go_enter Tryz.func60, Tryz.ntmps60
  go_wp2
  exact bodyPost_ret (v := .agg #[.slice ka m.fs.length kc, .slice va m.us.length vc]) (by simp [results, Tryz.results60, go_sem]) rfl ⟨rfl, by exact blBy⟩
theorem newFieldT (d : Nat) (HC : CpAt d) (w : World) (Z : Nat → Prop) (cs : List Value) (x : CF CM) (h : FldE w Z (MsgE w Z d) cs x) (p4 p6 p7 : Nat) (hB : CpB w p4 p6 p7) : Calls Tryz.prog 109 #[.agg cs.toArray, .pointer (some ⟨p7, 0, none⟩), .pointer (some ⟨p4, 0, none⟩), .pointer (some ⟨p6, 0, none⟩)] w (NewE (FmF d) w x) := by
  have h0 := h
  obtain ⟨ka, kc, va, vc, rfl, g, q, -, -, hu⟩ := fld_open h
  have HV : Hid (∀ (W : World) (pi q8 : Nat), Below w.heap.size w W → CpB W pi p6 p7 → Blk W q8 57 #[.func (.func 110) #[] #[.pointer (some ⟨pi, 0, none⟩), .pointer (some ⟨p6, 0, none⟩), .pointer (some ⟨p7, 0, none⟩)]] → ∀ (xs : List (CV CM)) (a : Option Addr) (c : Nat), VlsR W Z d (.slice a xs.length c) xs → Calls Tryz.prog 80 #[.slice a xs.length c, .func (.func 111) #[] #[.pointer (some ⟨q8, 0, none⟩)]] W (NewL 3 (FmV d) W xs)) := hid fun W pi q8 hW hB2 hN xs a c hx => by
    have := turnedV W Z d d xs a c hx 111 #[.pointer (some ⟨q8, 0, none⟩)] cfV id (fun W' hW' cs m _ hm => newValT d HC W' Z cs m hm pi p6 p7 q8 (hB2.kept hW') (hN.kept hW'))
    rw [List.map_id] at this
    exact this
  have HNO := hid (fun W (hW : Below w.heap.size w W) => nothingT W _ x Z d (h0.kept hW))
  have HU := hid hu
  have G := hid g
  have Q := hid q
  have HBB := hid hB
  have xs6 := hB.s.cellF
  have zs6 := hB.s.lt
  have xb7 := hB.b.cellF
  have zb7 := hB.b.lt
  have zk4 := hB.k.lt
  clear h h0 hB g q hu HC
  go_enter Tryz.func109, Tryz.ntmps109
  go_wp2_with fail
  refine (HNO.out _ (by exact blBy)).mono ?_
  rintro e w1 ⟨rfl, hbx⟩
  have Bx : Blk w1 w.heap.size 29 #[.int .i64 x.num, .slice ka x.ks.length kc, .slice va x.vs.length vc] := ((Blk.new _ _ _).kept (below_alloc _)).kept hbx
  have Br : Blk w1 (w.heap.size + 1) 29 #[.int .i64 0, .slice none 0 0, .slice none 0 0] := (Blk.newAt (by simp)).kept hbx
  have hbz : Hid (Below w.heap.size w w1) := hid (bl_then (by exact blBy) hbx)
  have hs1 : w.heap.size + 2 ≤ w1.heap.size := by have := hbx.size; simpa using this
  clear hbx xs6 zs6 xb7 zb7 zk4 HNO
  go_upto_region 4 with fail
  have BB : CpB ((w1.alloc (.cells #[] 104)).alloc (.cells #[.func (.func 110) #[] #[.pointer (some ⟨w1.heap.size, 0, none⟩), .pointer (some ⟨p6, 0, none⟩), .pointer (some ⟨p7, 0, none⟩)]] 57)) w1.heap.size p6 p7 := ⟨(Blk.new _ _ _).kept (below_alloc _), ((HBB.out.kept hbz.out).s.kept (below_alloc _)).kept (below_alloc _), ((HBB.out.kept hbz.out).b.kept (below_alloc _)).kept (below_alloc _)⟩
  have BN : Blk ((w1.alloc (.cells #[] 104)).alloc (.cells #[.func (.func 110) #[] #[.pointer (some ⟨w1.heap.size, 0, none⟩), .pointer (some ⟨p6, 0, none⟩), .pointer (some ⟨p7, 0, none⟩)]] 57)) (w1.heap.size + 1) 57 #[.func (.func 110) #[] #[.pointer (some ⟨w1.heap.size, 0, none⟩), .pointer (some ⟨p6, 0, none⟩), .pointer (some ⟨p7, 0, none⟩)]] := Blk.newAt (by simp)
  replace Bx := (Bx.kept (below_alloc (.cells #[] 104))).kept (below_alloc (.cells #[.func (.func 110) #[] #[.pointer (some ⟨w1.heap.size, 0, none⟩), .pointer (some ⟨p6, 0, none⟩), .pointer (some ⟨p7, 0, none⟩)]] 57))
  replace Br := (Br.kept (below_alloc (.cells #[] 104))).kept (below_alloc (.cells #[.func (.func 110) #[] #[.pointer (some ⟨w1.heap.size, 0, none⟩), .pointer (some ⟨p6, 0, none⟩), .pointer (some ⟨p7, 0, none⟩)]] 57))
  have HB : Hid (Below w.heap.size w ((w1.alloc (.cells #[] 104)).alloc (.cells #[.func (.func 110) #[] #[.pointer (some ⟨w1.heap.size, 0, none⟩), .pointer (some ⟨p6, 0, none⟩), .pointer (some ⟨p7, 0, none⟩)]] 57))) := hid (by have := hbz.out; exact blBy)
  have HS : Hid (w.heap.size + 2 ≤ ((w1.alloc (.cells #[] 104)).alloc (.cells #[.func (.func 110) #[] #[.pointer (some ⟨w1.heap.size, 0, none⟩), .pointer (some ⟨p6, 0, none⟩), .pointer (some ⟨p7, 0, none⟩)]] 57)).heap.size) := hid (by simp; omega)
  generalize ((w1.alloc (.cells #[] 104)).alloc (.cells #[.func (.func 110) #[] #[.pointer (some ⟨w1.heap.size, 0, none⟩), .pointer (some ⟨p6, 0, none⟩), .pointer (some ⟨p7, 0, none⟩)]] 57)) = W at *
  have HT : Hid (∀ W', Below W.heap.size W W' → ∀ (xs : List (CV CM)) (a : Option Addr) (c : Nat), VlsR w Z d (.slice a xs.length c) xs → Calls Tryz.prog 80 #[.slice a xs.length c, .func (.func 111) #[] #[.pointer (some ⟨w1.heap.size + 1, 0, none⟩)]] W' (NewL 3 (FmV d) W' xs)) := hid fun W' hW' xs a c hx => HV.out W' w1.heap.size (w1.heap.size + 1) (below_trans HB.out hW') (BB.kept hW') (BN.kept hW') xs a c (hx.kept (below_trans HB.out hW'))
  have HG : Hid (Below W.heap.size W W) := hid (Below.refl _ _)
  have f0 : W.cell? ⟨w.heap.size, 0, none⟩ = some (.int .i64 x.num) := Bx.cell 0 _ rfl
  have f1 : W.cell? ⟨w.heap.size, 1, none⟩ = some (.slice ka x.ks.length kc) := Bx.cell 1 _ rfl
  have f2 : W.cell? ⟨w.heap.size, 2, none⟩ = some (.slice va x.vs.length vc) := Bx.cell 2 _ rfl
  have hp1 : w.heap.size ≠ w.heap.size + 1 := by omega
  have xr := Br.cellF
  have yr := Br.frz
  have zr := Br.lt
  clear Bx BB BN HBB HV hbz hs1
  generalize w1.heap.size + 1 = q8 at *
  go_region_held3 (fun W => W.cell? ⟨w.heap.size, 0, none⟩ = some (.int .i64 x.num) ∧ W.cell? ⟨w.heap.size, 1, none⟩ = some (.slice ka x.ks.length kc) ∧ W.cell? ⟨w.heap.size, 2, none⟩ = some (.slice va x.vs.length vc)) (first | exact ⟨f0, f1, f2⟩ | exact ⟨cs3 f0 hp1, cs3 f1 hp1, cs3 f2 hp1⟩) (first | (go_at_call_of 80 (Value.slice ka x.ks.length kc); refine (HT.out _ (by have := HG.out; exact blBy) x.ks ka kc G.out).mono ?_; rintro e w2 ⟨a1, c1, rfl, hn, hbx⟩; replace f0 := cell_below f0 (below_trans (by first | exact Below.refl _ _ | exact below_drew1 _ | exact below_drewN _ _) hbx); replace f1 := cell_below f1 (below_trans (by first | exact Below.refl _ _ | exact below_drew1 _ | exact below_drewN _ _) hbx); replace f2 := cell_below f2 (below_trans (by first | exact Below.refl _ _ | exact below_drew1 _ | exact below_drewN _ _) hbx); replace Br := Br.kept (below_trans (by first | exact Below.refl _ _ | exact below_drew1 _ | exact below_drewN _ _) hbx); replace xr := Br.cellF; replace yr := Br.frz; replace zr := Br.lt; replace HB := hid (below_trans HB.out (below_trans (by first | exact Below.refl _ _ | exact below_drew1 _ | exact below_drewN _ _) hbx)); replace HG := hid (below_trans HG.out (below_trans (by first | exact Below.refl _ _ | exact below_drew1 _ | exact below_drewN _ _) hbx)); have H1 : Hid (VlsR w2 (w.heap.size + 2 ≤ ·) d (.slice a1 x.ks.length c1) x.ks) := hid (VlsR.go hn (Keep.refl (fun _ => True) w2) (fun _ _ => trivial) (fun k hk => Nat.le_trans HS.out hk)); (try replace H2 := hid (VlsR.kept H2.out (below_trans (by first | exact Below.refl _ _ | exact below_drew1 _ | exact below_drewN _ _) hbx))); replace HS := hid (Nat.le_trans HS.out (Below.size (below_trans (by first | exact Below.refl _ _ | exact below_drew1 _ | exact below_drewN _ _) hbx))); clear hn hbx) | (go_at_call_of 80 (Value.slice va x.vs.length vc); refine (HT.out _ (by have := HG.out; exact blBy) x.vs va vc Q.out).mono ?_; rintro e w3 ⟨a2, c2, rfl, hn, hbx⟩; replace f0 := cell_below f0 (below_trans (by first | exact Below.refl _ _ | exact below_drew1 _ | exact below_drewN _ _) hbx); replace f1 := cell_below f1 (below_trans (by first | exact Below.refl _ _ | exact below_drew1 _ | exact below_drewN _ _) hbx); replace f2 := cell_below f2 (below_trans (by first | exact Below.refl _ _ | exact below_drew1 _ | exact below_drewN _ _) hbx); replace Br := Br.kept (below_trans (by first | exact Below.refl _ _ | exact below_drew1 _ | exact below_drewN _ _) hbx); replace xr := Br.cellF; replace yr := Br.frz; replace zr := Br.lt; replace HB := hid (below_trans HB.out (below_trans (by first | exact Below.refl _ _ | exact below_drew1 _ | exact below_drewN _ _) hbx)); replace HG := hid (below_trans HG.out (below_trans (by first | exact Below.refl _ _ | exact below_drew1 _ | exact below_drewN _ _) hbx)); have H2 : Hid (VlsR w3 (w.heap.size + 2 ≤ ·) d (.slice a2 x.vs.length c2) x.vs) := hid (VlsR.go hn (Keep.refl (fun _ => True) w3) (fun _ _ => trivial) (fun k hk => Nat.le_trans HS.out hk)); (try replace H1 := hid (VlsR.kept H1.out (below_trans (by first | exact Below.refl _ _ | exact below_drew1 _ | exact below_drewN _ _) hbx))); replace HS := hid (Nat.le_trans HS.out (Below.size (below_trans (by first | exact Below.refl _ _ | exact below_drew1 _ | exact below_drewN _ _) hbx))); clear hn hbx))
  all_goals go_wp2
  all_goals exact bodyPost_ret (v := .agg #[.int .i64 x.num, .slice a1 x.ks.length c1, .slice a2 x.vs.length c2]) (by simp [results, Tryz.results109, go_sem, xr, zr, yr]) rfl (NewE.mk [.int .i64 x.num, .slice a1 x.ks.length c1, .slice a2 x.vs.length c2] ⟨_, _, rfl, VlsR.go H1.out (f := (w.heap.size + 2 ≤ ·)) (by with_reducible repeat (first | exact Keep.refl _ _ | refine kpS ?_ (by first | (simp; done) | (simp; omega) | omega) | refine kpA ?_ _ | refine kpD ?_ | refine kpN ?_ _)) (fun _ h => h) (fun k hk => by omega), VlsR.go H2.out (f := (w.heap.size + 2 ≤ ·)) (by with_reducible repeat (first | exact Keep.refl _ _ | refine kpS ?_ (by first | (simp; done) | (simp; omega) | omega) | refine kpA ?_ _ | refine kpD ?_ | refine kpN ?_ _)) (fun _ h => h) (fun k hk => by omega), HU.out⟩ (by have := HB.out; exact blBy))
theorem rebuiltT : ∀ d, CpAt d
  | 0 => fun _ _ _ _ h => h.elim
  | d + 1 => fun w Z cs m h => by
    have HC := rebuiltT d
    have h0 := h
    obtain ⟨ka, kc, va, vc, rfl, g, q, -⟩ := msg_open h
    have HT : Hid (∀ (W : World) (p4 p6 p7 : Nat), Below w.heap.size w W → CpB W p4 p6 p7 → Calls Tryz.prog 81 #[.slice ka m.fs.length kc, .func (.func 109) #[] #[.pointer (some ⟨p7, 0, none⟩), .pointer (some ⟨p4, 0, none⟩), .pointer (some ⟨p6, 0, none⟩)]] W (NewL 3 (FmF d) W m.fs)) := hid fun W p4 p6 p7 hW hB => by
      have := turnedF W Z d d m.fs ka kc (g.kept hW) 109 #[.pointer (some ⟨p7, 0, none⟩), .pointer (some ⟨p4, 0, none⟩), .pointer (some ⟨p6, 0, none⟩)] cfF id (fun W' hW' cs x _ hx => newFieldT d HC W' Z cs x hx p4 p6 p7 (hB.kept hW'))
      rw [List.map_id] at this
      exact this
    have HE : Hid (∀ (W : World), Below w.heap.size w W → Calls Tryz.prog 82 #[.slice va m.us.length vc, .func (.func 83) #[] #[]] W (NewL 4 FmE W m.us)) := hid fun W hW => by
      have := turnedE W Z m.us va vc (q.kept hW) 83 #[] cfE id (fun W' hW' cs x _ hx => newEntryT W' Z cs x hx)
      rw [List.map_id] at this
      exact this
    have HW := hid (fun W (hW : Below w.heap.size w W) => wholeT W _ m Z (d + 1) (h0.kept hW))
    clear h h0 g q HC
    go_enter Tryz.func62, Tryz.ntmps62
    go_wp2_with fail
    refine (HW.out _ (by exact blBy)).mono ?_
    rintro e w1 ⟨rfl, hbx⟩
    have B4 : Blk w1 w.heap.size 104 #[] := (((((Blk.new _ _ _).kept (below_alloc _)).kept (below_alloc _)).kept (below_alloc _)).kept (below_alloc _)).kept hbx
    have B5 : Blk w1 (w.heap.size + 1) 35 #[.slice ka m.fs.length kc, .slice va m.us.length vc] := ((((Blk.newAt (by simp)).kept (below_alloc _)).kept (below_alloc _)).kept (below_alloc _)).kept hbx
    have B6 : Blk w1 (w.heap.size + 1 + 1) 105 #[.func (.func 60) #[] #[]] := (((Blk.newAt (by simp)).kept (below_alloc _)).kept (below_alloc _)).kept hbx
    have B7 : Blk w1 (w.heap.size + 1 + 1 + 1) 106 #[.func (.func 61) #[] #[]] := ((Blk.newAt (by simp)).kept (below_alloc _)).kept hbx
    have Br : Blk w1 (w.heap.size + 1 + 1 + 1 + 1) 35 #[.slice none 0 0, .slice none 0 0] := (Blk.newAt (by simp)).kept hbx
    have hbz : Hid (Below w.heap.size w w1) := hid (bl_then (by exact blBy) hbx)
    have hs1 : w.heap.size + 5 ≤ w1.heap.size := by have := hbx.size; simpa using this
    clear hbx HW
    have x5 := B5.cellF
    have y5 := B5.frz
    have z5 := B5.lt
    go_upto_region 3 with fail
    have BB : CpB ((w1.setCell ⟨w.heap.size + 1, 0, none⟩ (.slice ka m.fs.length kc)).setCell ⟨w.heap.size + 1, 1, none⟩ (.slice va m.us.length vc)) w.heap.size (w.heap.size + 1 + 1) (w.heap.size + 1 + 1 + 1) := ⟨(B4.other (by simp) _).other (by simp) _, (B6.other (by simp) _).other (by simp) _, (B7.other (by simp; omega) _).other (by simp; omega) _⟩
    replace B5 := (B5.set 0 (.slice ka m.fs.length kc)).set 1 (.slice va m.us.length vc)
    replace Br := (Br.other (a := ⟨w.heap.size + 1, 0, none⟩) (by simp; omega) (.slice ka m.fs.length kc)).other (a := ⟨w.heap.size + 1, 1, none⟩) (by simp; omega) (.slice va m.us.length vc)
    have HB : Hid (Below w.heap.size w ((w1.setCell ⟨w.heap.size + 1, 0, none⟩ (.slice ka m.fs.length kc)).setCell ⟨w.heap.size + 1, 1, none⟩ (.slice va m.us.length vc))) := hid (by have := hbz.out; exact blBy)
    have HS : Hid (w.heap.size + 5 ≤ ((w1.setCell ⟨w.heap.size + 1, 0, none⟩ (.slice ka m.fs.length kc)).setCell ⟨w.heap.size + 1, 1, none⟩ (.slice va m.us.length vc)).heap.size) := hid (by simpa using hs1)
    clear x5 y5 z5 B4 B6 B7 hs1 hbz
    generalize ((w1.setCell ⟨w.heap.size + 1, 0, none⟩ (.slice ka m.fs.length kc)).setCell ⟨w.heap.size + 1, 1, none⟩ (.slice va m.us.length vc)) = W at *
    have f0 : W.cell? ⟨w.heap.size + 1, 0, none⟩ = some (.slice ka m.fs.length kc) := B5.cell 0 _ (by simp)
    have f1 : W.cell? ⟨w.heap.size + 1, 1, none⟩ = some (.slice va m.us.length vc) := B5.cell 1 _ (by simp)
    have hp1 : w.heap.size + 1 ≠ w.heap.size + 1 + 1 + 1 + 1 := by omega
    have HBB := hid BB
    have xr := Br.cellF
    have yr := Br.frz
    have zr := Br.lt
    clear B5 BB
    go_region_held3 (fun W => W.cell? ⟨w.heap.size + 1, 0, none⟩ = some (.slice ka m.fs.length kc) ∧ W.cell? ⟨w.heap.size + 1, 1, none⟩ = some (.slice va m.us.length vc)) (first | exact ⟨f0, f1⟩ | exact ⟨cs2 f0 hp1, cs2 f1 hp1⟩) (first | (go_at_call 81; refine (HT.out _ _ _ _ (by have := HB.out; exact blBy) (HBB.out.kept (by first | exact Below.refl _ _ | exact below_drew1 _ | exact below_drewN _ _))).mono ?_; rintro e w2 ⟨a1, c1, rfl, hn, hbx⟩; replace f0 := cell_below f0 (below_trans (by first | exact Below.refl _ _ | exact below_drew1 _ | exact below_drewN _ _) hbx); replace f1 := cell_below f1 (below_trans (by first | exact Below.refl _ _ | exact below_drew1 _ | exact below_drewN _ _) hbx); replace Br := Br.kept (below_trans (by first | exact Below.refl _ _ | exact below_drew1 _ | exact below_drewN _ _) hbx); replace xr := Br.cellF; replace yr := Br.frz; replace zr := Br.lt; replace HB := hid (below_trans HB.out (below_trans (by first | exact Below.refl _ _ | exact below_drew1 _ | exact below_drewN _ _) hbx)); replace HBB := hid (HBB.out.kept (below_trans (by first | exact Below.refl _ _ | exact below_drew1 _ | exact below_drewN _ _) hbx)); have H1 : Hid (FlsR w2 (w.heap.size + 5 ≤ ·) d (.slice a1 m.fs.length c1) m.fs) := hid (FlsR.go hn (Keep.refl (fun _ => True) w2) (fun _ _ => trivial) (fun k hk => Nat.le_trans HS.out hk)); (try replace H2 := hid (EnsR.kept H2.out (below_trans (by first | exact Below.refl _ _ | exact below_drew1 _ | exact below_drewN _ _) hbx))); replace HS := hid (Nat.le_trans HS.out (Below.size (below_trans (by first | exact Below.refl _ _ | exact below_drew1 _ | exact below_drewN _ _) hbx))); clear hn hbx) | (go_at_call 82; refine (HE.out _ (by have := HB.out; exact blBy)).mono ?_; rintro e w3 ⟨a2, c2, rfl, hn, hbx⟩; replace f0 := cell_below f0 (below_trans (by first | exact Below.refl _ _ | exact below_drew1 _ | exact below_drewN _ _) hbx); replace f1 := cell_below f1 (below_trans (by first | exact Below.refl _ _ | exact below_drew1 _ | exact below_drewN _ _) hbx); replace Br := Br.kept (below_trans (by first | exact Below.refl _ _ | exact below_drew1 _ | exact below_drewN _ _) hbx); replace xr := Br.cellF; replace yr := Br.frz; replace zr := Br.lt; replace HB := hid (below_trans HB.out (below_trans (by first | exact Below.refl _ _ | exact below_drew1 _ | exact below_drewN _ _) hbx)); replace HBB := hid (HBB.out.kept (below_trans (by first | exact Below.refl _ _ | exact below_drew1 _ | exact below_drewN _ _) hbx)); have H2 : Hid (EnsR w3 (w.heap.size + 5 ≤ ·) (.slice a2 m.us.length c2) m.us) := hid (EnsR.go hn (Keep.refl (fun _ => True) w3) (fun _ _ => trivial) (fun k hk => Nat.le_trans HS.out hk)); (try replace H1 := hid (FlsR.kept H1.out (below_trans (by first | exact Below.refl _ _ | exact below_drew1 _ | exact below_drewN _ _) hbx))); replace HS := hid (Nat.le_trans HS.out (Below.size (below_trans (by first | exact Below.refl _ _ | exact below_drew1 _ | exact below_drewN _ _) hbx))); clear hn hbx))
    all_goals go_wp2
    all_goals exact bodyPost_ret (v := .agg #[.slice a1 m.fs.length c1, .slice a2 m.us.length c2]) (by simp [results, Tryz.results62, go_sem, xr, zr, yr]) rfl (NewE.mk [.slice a1 m.fs.length c1, .slice a2 m.us.length c2] ⟨_, _, rfl, FlsR.go H1.out (f := (w.heap.size + 5 ≤ ·)) (by with_reducible repeat (first | exact Keep.refl _ _ | refine kpS ?_ (by first | (simp; done) | (simp; omega) | omega) | refine kpA ?_ _ | refine kpD ?_ | refine kpN ?_ _)) (fun _ h => h) (fun k hk => by omega), EnsR.go H2.out (f := (w.heap.size + 5 ≤ ·)) (by with_reducible repeat (first | exact Keep.refl _ _ | refine kpS ?_ (by first | (simp; done) | (simp; omega) | omega) | refine kpA ?_ _ | refine kpD ?_ | refine kpN ?_ _)) (fun _ h => h) (fun k hk => by omega)⟩ (by have := HB.out; exact blBy))
theorem copyT (d : Nat) (w : World) (Z : Nat → Prop) (cs : List Value) (m : CM) (h : MsgE w Z d cs m) : Calls Tryz.prog 28 #[.agg cs.toArray] w (NewE (FmM d) w m) := by
  have HR := hid (fun W (hW : Below w.heap.size w W) => rebuiltT d W Z cs m (h.kept hW))
  obtain ⟨ka, kc, va, vc, rfl, -⟩ := msg_openD h
  clear h
  go_enter Tryz.func28, Tryz.ntmps28
  go_wp2_with fail
  refine (HR.out _ (by exact blBy)).mono ?_
  rintro e w1 ⟨ds, rfl, hn, hbx⟩
  have Br : Blk w1 (w.heap.size + 1) 35 #[.slice none 0 0, .slice none 0 0] := (Blk.newAt (by simp)).kept hbx
  have HN : Hid (MsgE w1 (w.heap.size + 2 ≤ ·) d ds m) := hid (MsgE.go (Keep.refl (fun _ => True) w1) (fun _ _ => trivial) (fun k hk => by simpa using hk) d _ _ hn)
  have hbz : Hid (Below w.heap.size w w1) := hid (bl_then (by exact blBy) hbx)
  clear hbx hn HR
  obtain ⟨fa, fc, ua, uc, rfl, -⟩ := msg_openD HN.out
  have xr := Br.cellF
  have yr := Br.frz
  have zr := Br.lt
  go_wp2
  exact bodyPost_ret (v := .agg #[.slice fa m.fs.length fc, .slice ua m.us.length uc]) (by simp [results, Tryz.results28, go_sem, xr, zr, yr]) rfl (NewE.mk [.slice fa m.fs.length fc, .slice ua m.us.length uc] (MsgE.go (f := (w.heap.size + 2 ≤ ·)) (by with_reducible repeat (first | exact Keep.refl _ _ | refine kpS ?_ (by first | (simp; done) | (simp; omega) | omega) | refine kpA ?_ _ | refine kpD ?_ | refine kpN ?_ _)) (fun _ h => h) (fun k hk => by omega) d _ _ HN.out) (by have := hbz.out; exact blBy))
end Go.Proofs.YtgephggcgopfgaaGreatDoor
