/-
  The messages of the examples, laid.
  The laws' first question: a number that fits, and one that does not.
  Chapter 8's examples.
  ModelAlong: what is settled is normal and stays; what is set is there.
  What comes in, opened: strings; and what the bound on it says.
-/
import Derived.Test.YtnfdlnelfnigdaaGreatDoorCBQ
import Derived.Test.YtnfdlnelfnigdaaGreatDoorCAC
import Derived.Test.YtnfdlnelfnigdaaGreatDoorCTX0
import Derived.Deep.RegionHeld3
import Derived.Test.YtnfdlnelfnigdaaGreatDoorCDI
import Derived.ProofKit
import Derived.OpenShut
import Derived.ShutString
import Derived.Lib.SmallJoins
import Derived.Deep.Slices
import Derived.Deep.Fields
namespace Go.Proofs.YtnfdlnelfnigdaaGreatDoor
open Go.RowKit
set_option maxRecDepth 1000000
set_option linter.unusedVariables false
set_option linter.unusedSimpArgs false
set_option maxHeartbeats 1000000
theorem rowM_blk {α : Type} {W : World} {E : List Value → α → Prop} {k p : Nat} {t : TypeId} (ts : List (Tup k)) (xs : List α) (hl : ts.length = xs.length) (hn : xs.length ≤ 4000000) {cs : Array Value} (B : Blk W p t cs) (hc : cs = (ts.flatMap Subtype.val).toArray) (he : ∀ (i : Nat) (t : Tup k) (x : α), ts[i]? = some t → xs[i]? = some x → E t.1 x) : RowM W AnyZ k E (.slice (some ⟨p, 0, none⟩) xs.length xs.length) xs :=
  ⟨ts, rowOf B k xs.length _ hc (by rw [← hl]; exact flatM_len (fun x => x.2) ts) (by omega), hl, hn, he⟩
theorem rowM_one {α : Type} {W : World} {E : List Value → α → Prop} {k p : Nat} {t : TypeId} {cs : List Value} {x : α} (B : Blk W p t cs.toArray) (hk : cs.length = k) (he : E cs x) : RowM W AnyZ k E (.slice (some ⟨p, 0, none⟩) 1 1) [x] :=
  rowM_blk [⟨cs, hk⟩] [x] rfl (by simp) B (by simp) (fun i t y h1 h2 => by
    cases i with
    | zero => simp at h1 h2; subst h1 h2; exact he
    | succ i => simp at h1)
theorem by_nil (W : World) (Z : Nat → Prop) : ByE W Z (.slice none 0 0) [] := ⟨rowS_nil _ _ _, by simp, by simp⟩
theorem val_num (W : World) (Z : Nat → Prop) (R : List Value → CM → Prop) (n : Int) (hn : U64 n) : ValE W Z R [.int .u64 n, .slice none 0 0, .slice none 0 0] ⟨n, [], []⟩ := ⟨_, _, rfl, by_nil W Z, RowM.nil _ _ _ _, hn⟩
/-- A field of one number. -/
def nF (k n : Int) : CF CM := ⟨k, [], [⟨n, [], []⟩]⟩
theorem nW (w : World) (k v : Int) (hk : I64 k) (n : Int) (hv : (IntKind.u64.wrap v) = n) (hn : U64 n) (d : Nat) : Calls Tryz.prog 10 #[.int .i64 k, .int .i64 v] w fun e w' => ∃ cs : List Value, e = .returned (.agg cs.toArray) ∧ cs.length = 3 ∧ FldE w' AnyZ (MsgE w' AnyZ d) cs (nF k n) ∧ Below w.heap.size w w' := by
  go_enter Tryz.func10, Tryz.ntmps10
  go_wp2
  have B : Blk ((w.alloc (.cells #[.int .i64 k, .slice none 0 0, .slice (some ⟨w.heap.size + 1, 0, none⟩) 1 1] 29)).alloc (.cells #[.int .u64 n, .slice none 0 0, .slice none 0 0] 26)) (w.heap.size + 1) 26 #[.int .u64 n, .slice none 0 0, .slice none 0 0] := Blk.newAt (by simp)
  exact bodyPost_ret (v := .agg #[.int .i64 k, .slice none 0 0, .slice (some ⟨w.heap.size + 1, 0, none⟩) 1 1]) (by simp [results, Tryz.results10, go_sem]) rfl ⟨[.int .i64 k, .slice none 0 0, .slice (some ⟨w.heap.size + 1, 0, none⟩) 1 1], rfl, rfl, ⟨_, _, rfl, RowM.nil _ _ _ _, rowM_one (cs := [.int .u64 n, .slice none 0 0, .slice none 0 0]) B rfl (val_num _ _ _ n hn), hk⟩, by exact blBy⟩
theorem MsgE.any {w : World} {Z : Nat → Prop} {d : Nat} {cs : List Value} {m : CM} (h : MsgE w Z d cs m) : MsgE w AnyZ d cs m := MsgE.go (Keep.refl (fun _ => True) w) (fun _ _ => trivial) (fun _ _ => trivial) d _ _ h
theorem msgW (w : World) (a : Option Addr) (n c : Nat) : Calls Tryz.prog 9 #[.slice a n c] w fun e w' => e = .returned (.agg #[.slice a n c, .slice none 0 0]) ∧ Below w.heap.size w w' := by
  go_enter Tryz.func9, Tryz.ntmps9
  go_wp2
  exact bodyPost_ret (v := .agg #[.slice a n c, .slice none 0 0]) (by simp [results, Tryz.results9, go_sem]) rfl ⟨rfl, by exact blBy⟩
theorem typedLW (w : World) (mx : Int) (hm0 : w.cell? ⟨0, 0, none⟩ = some (.int .i64 mx)) (Z : Nat → Prop) (d : Nat) (cs : List Value) (m : CM) (hm : MsgE w Z d cs m) (is want : Bool) (hi : ∀ h, keptB (simL h) d (simM h) m = is) : Calls Tryz.prog 8 #[.agg cs.toArray, .bool want] w fun e w' => e = .returned (.bool (is == want)) ∧ Below w.heap.size w w' := by
  have HT : Hid (∀ (W : World) (h : Nat) (a : Option Addr), Below w.heap.size w W → TbR W (.slice a (simL h).length 2) (simL h) → Calls Tryz.prog 17 #[.agg #[.slice a (simL h).length 2], .int .i64 1, .agg cs.toArray] W fun e w' => e = .returned (.tuple #[.bool is, .int .i64 0]) ∧ Below W.heap.size W w') := hid fun W h a hW hT => by
    have := typedT W (simL h) a 2 hT (simOk h) mx (cell_below hm0 hW) 1 (by show 1 < 2; decide) (simGood h) rfl Z d cs m (hm.kept hW)
    rw [show keptB (simL h) d ((simL h)[1]'(by show 1 < 2; decide)) m = is from hi h] at this
    exact this
  obtain ⟨fa, fc, ua, uc, rfl, -⟩ := msg_openD hm
  clear hm hm0 hi
  go_enter Tryz.func8, Tryz.ntmps8
  go_upto_region 1 with fail
  have Bm : Blk (w.alloc (.cells #[.slice fa m.fs.length fc, .slice ua m.us.length uc] 35)) w.heap.size 35 #[.slice fa m.fs.length fc, .slice ua m.us.length uc] := Blk.new _ _ _
  have HB : Hid (Below w.heap.size w (w.alloc (.cells #[.slice fa m.fs.length fc, .slice ua m.us.length uc] 35))) := hid (by exact blBy)
  generalize (w.alloc (.cells #[.slice fa m.fs.length fc, .slice ua m.us.length uc] 35)) = W at *
  have f0 : W.cell? ⟨w.heap.size, 0, none⟩ = some (.slice fa m.fs.length fc) := Bm.cell 0 _ rfl
  have f1 : W.cell? ⟨w.heap.size, 1, none⟩ = some (.slice ua m.us.length uc) := Bm.cell 1 _ rfl
  clear Bm
  go_region_held3 (fun W => W.cell? ⟨w.heap.size, 0, none⟩ = some (.slice fa m.fs.length fc) ∧ W.cell? ⟨w.heap.size, 1, none⟩ = some (.slice ua m.us.length uc)) (exact ⟨f0, f1⟩) (first | (go_at_call 14; refine (simpleW _).mono ?_; rintro e w2 ⟨rfl, ht, hbx⟩; replace f0 := cell_below f0 (below_trans (by first | exact Below.refl _ _ | exact below_drew1 _ | exact below_drewN _ _) hbx); replace f1 := cell_below f1 (below_trans (by first | exact Below.refl _ _ | exact below_drew1 _ | exact below_drewN _ _) hbx); replace HB := hid (below_trans HB.out (below_trans (by first | exact Below.refl _ _ | exact below_drew1 _ | exact below_drewN _ _) hbx)); have HT1 := hid ht; clear ht hbx) | (go_at_call 17; refine (HT.out _ _ _ (by have := HB.out; exact blBy) (HT1.out.kept (by first | exact Below.refl _ _ | exact below_drew1 _ | exact below_drewN _ _))).mono ?_; rintro e w3 ⟨rfl, hbx⟩; replace f0 := cell_below f0 (below_trans (by first | exact Below.refl _ _ | exact below_drew1 _ | exact below_drewN _ _) hbx); replace f1 := cell_below f1 (below_trans (by first | exact Below.refl _ _ | exact below_drew1 _ | exact below_drewN _ _) hbx); replace HB := hid (below_trans HB.out (below_trans (by first | exact Below.refl _ _ | exact below_drew1 _ | exact below_drewN _ _) hbx)); clear hbx))
  all_goals go_wp2
  all_goals (go_ret; exact ⟨ret_bool (by cases is <;> cases want <;> rfl), by have := HB.out; exact blBy⟩)
end Go.Proofs.YtnfdlnelfnigdaaGreatDoor
namespace Go.Proofs.YtnfdlnelfnigdaaGreatDoor
open Go.RowKit
set_option maxRecDepth 1000000
set_option linter.unusedVariables false
set_option linter.unusedSimpArgs false
set_option maxHeartbeats 2000000
theorem msgOne {W : World} {p d : Nat} {cs : List Value} {f : CF CM} (B : Blk W p 29 cs.toArray) (hf : FldE W AnyZ (MsgE W AnyZ d) cs f) (hl : cs.length = 3) : MsgE W AnyZ (d + 1) [.slice (some ⟨p, 0, none⟩) 1 1, .slice none 0 0] (CM.mk [f] []) := ⟨_, _, rfl, rowM_one B hl hf, RowM.nil _ _ _ _⟩
def m5 : CM := CM.mk [nF 1 5] []
def m6 : CM := CM.mk [nF 1 6] []
def m40 : CM := CM.mk [nF 1 1099511627776] []
theorem kept5 (h : Nat) : keptB (simL h) 1 (simM h) m5 = true := by kernel_rfl
theorem kept40 (h : Nat) : keptB (simL h) 1 (simM h) m40 = false := by kernel_rfl
theorem ne56 : ¬ m5 = m6 := by
  intro h
  simp [m5, m6, nF] at h
theorem EqR.val {w : World} {P : Prop} {e : Ending} {w' : World} (h : EqR w P e w') (b : Bool) (hb : b = true ↔ P) : e = .returned (.bool b) ∧ Below w.heap.size w w' := by
  obtain ⟨r, he, hr, hx⟩ := h
  have : r = b := by rw [Bool.eq_iff_iff, hr, hb]
  exact ⟨by rw [he, this], hx⟩
theorem awake8 (w : World) (mx : Int) (hm0 : w.cell? ⟨0, 0, none⟩ = some (.int .i64 mx)) : Calls Tryz.prog 7 #[] w fun e w' => e = .returned (.bool true) ∧ Below w.heap.size w w' := by
  have HM := hid hm0
  have i1 : I64 1 := by unfold I64; omega
  clear hm0
  go_enter Tryz.func7, Tryz.ntmps7
  go_wp2_with fail
  refine (nW _ 1 5 i1 5 rfl ⟨by decide, by decide⟩ 0).mono ?_
  rintro e w1 ⟨cs, rfl, hl, hf, hbx⟩
  have hb1 : Hid (Below w.heap.size w w1) := hid (bl_then (by exact blBy) hbx)
  obtain ⟨ka1, kc1, va1, vc1, rfl, -⟩ := fld_open hf
  have HF1 := hid hf
  clear hf hl hbx
  go_wp2_with fail
  refine (msgW _ _ _ _).mono ?_
  rintro e w2 ⟨rfl, hbx⟩
  have hb2 : Hid (Below w.heap.size w w2) := hid (bl_then (by have := hb1.out; exact blBy) hbx)
  have HG2 := hid (msgOne ((Blk.new w1 29 _).kept hbx) (HF1.out.kept (bl_then (below_alloc _) hbx)) rfl)
  clear hbx
  go_wp2_with fail
  refine (typedLW _ mx (cell_below HM.out (by have := hb2.out; exact blBy)) AnyZ 1 _ _ HG2.out true true kept5).mono ?_
  rintro e w3 ⟨rfl, hbx⟩
  have hb3 : Hid (Below w.heap.size w w3) := hid (bl_then (by have := hb2.out; exact blBy) hbx)
  clear hbx
  go_wp2_with fail
  refine (nW _ 1 1099511627776 i1 1099511627776 rfl ⟨by decide, by decide⟩ 0).mono ?_
  rintro e w4 ⟨cs, rfl, hl, hf, hbx⟩
  have hb4 : Hid (Below w.heap.size w w4) := hid (bl_then (by have := hb3.out; exact blBy) hbx)
  obtain ⟨ka4, kc4, va4, vc4, rfl, -⟩ := fld_open hf
  have HF4 := hid hf
  clear hf hl hbx
  go_wp2_with fail
  refine (msgW _ _ _ _).mono ?_
  rintro e w5 ⟨rfl, hbx⟩
  have hb5 : Hid (Below w.heap.size w w5) := hid (bl_then (by have := hb4.out; exact blBy) hbx)
  have HG5 := hid (msgOne ((Blk.new w4 29 _).kept hbx) (HF4.out.kept (bl_then (below_alloc _) hbx)) rfl)
  clear hbx
  go_wp2_with fail
  refine (typedLW _ mx (cell_below HM.out (by have := hb5.out; exact blBy)) AnyZ 1 _ _ HG5.out false false kept40).mono ?_
  rintro e w6 ⟨rfl, hbx⟩
  have hb6 : Hid (Below w.heap.size w w6) := hid (bl_then (by have := hb5.out; exact blBy) hbx)
  clear hbx
  go_wp2_with fail
  refine (nW _ 1 5 i1 5 rfl ⟨by decide, by decide⟩ 0).mono ?_
  rintro e w7 ⟨cs, rfl, hl, hf, hbx⟩
  have hb7 : Hid (Below w.heap.size w w7) := hid (bl_then (by have := hb6.out; exact blBy) hbx)
  obtain ⟨ka7, kc7, va7, vc7, rfl, -⟩ := fld_open hf
  have HF7 := hid hf
  clear hf hl hbx
  go_wp2_with fail
  refine (msgW _ _ _ _).mono ?_
  rintro e w8 ⟨rfl, hbx⟩
  have hb8 : Hid (Below w.heap.size w w8) := hid (bl_then (by have := hb7.out; exact blBy) hbx)
  have HG8 := hid (msgOne ((Blk.new w7 29 _).kept hbx) (HF7.out.kept (bl_then (below_alloc _) hbx)) rfl)
  clear hbx
  go_wp2_with fail
  refine (nW _ 1 5 i1 5 rfl ⟨by decide, by decide⟩ 0).mono ?_
  rintro e w9 ⟨cs, rfl, hl, hf, hbx⟩
  have hb9 : Hid (Below w.heap.size w w9) := hid (bl_then (by have := hb8.out; exact blBy) hbx)
  replace HG8 := hid (HG8.out.kept (bl_then (by exact blBy) hbx))
  obtain ⟨ka9, kc9, va9, vc9, rfl, -⟩ := fld_open hf
  have HF9 := hid hf
  clear hf hl hbx
  go_wp2_with fail
  refine (msgW _ _ _ _).mono ?_
  rintro e w10 ⟨rfl, hbx⟩
  have hb10 : Hid (Below w.heap.size w w10) := hid (bl_then (by have := hb9.out; exact blBy) hbx)
  replace HG8 := hid (HG8.out.kept (bl_then (by exact blBy) hbx))
  have HG10 := hid (msgOne ((Blk.new w9 29 _).kept hbx) (HF9.out.kept (bl_then (below_alloc _) hbx)) rfl)
  clear hbx
  go_wp2_with fail
  refine ((equalT 1 _ AnyZ AnyZ _ _ _ _ HG8.out HG10.out)).mono ?_
  rintro e w11 he
  have hb11 : Hid (Below w.heap.size w w11) := hid (bl_then (by have := hb10.out; exact blBy) (EqR.val he true ⟨fun _ => rfl, fun _ => rfl⟩).2)
  obtain ⟨rfl, hbx⟩ := EqR.val he true ⟨fun _ => rfl, fun _ => rfl⟩
  clear he hbx
  go_wp2_with fail
  refine (nW _ 1 5 i1 5 rfl ⟨by decide, by decide⟩ 0).mono ?_
  rintro e w12 ⟨cs, rfl, hl, hf, hbx⟩
  have hb12 : Hid (Below w.heap.size w w12) := hid (bl_then (by have := hb11.out; exact blBy) hbx)
  obtain ⟨ka12, kc12, va12, vc12, rfl, -⟩ := fld_open hf
  have HF12 := hid hf
  clear hf hl hbx
  go_wp2_with fail
  refine (msgW _ _ _ _).mono ?_
  rintro e w13 ⟨rfl, hbx⟩
  have hb13 : Hid (Below w.heap.size w w13) := hid (bl_then (by have := hb12.out; exact blBy) hbx)
  have HG13 := hid (msgOne ((Blk.new w12 29 _).kept hbx) (HF12.out.kept (bl_then (below_alloc _) hbx)) rfl)
  clear hbx
  go_wp2_with fail
  refine (nW _ 1 6 i1 6 rfl ⟨by decide, by decide⟩ 0).mono ?_
  rintro e w14 ⟨cs, rfl, hl, hf, hbx⟩
  have hb14 : Hid (Below w.heap.size w w14) := hid (bl_then (by have := hb13.out; exact blBy) hbx)
  replace HG13 := hid (HG13.out.kept (bl_then (by exact blBy) hbx))
  obtain ⟨ka14, kc14, va14, vc14, rfl, -⟩ := fld_open hf
  have HF14 := hid hf
  clear hf hl hbx
  go_wp2_with fail
  refine (msgW _ _ _ _).mono ?_
  rintro e w15 ⟨rfl, hbx⟩
  have hb15 : Hid (Below w.heap.size w w15) := hid (bl_then (by have := hb14.out; exact blBy) hbx)
  replace HG13 := hid (HG13.out.kept (bl_then (by exact blBy) hbx))
  have HG15 := hid (msgOne ((Blk.new w14 29 _).kept hbx) (HF14.out.kept (bl_then (below_alloc _) hbx)) rfl)
  clear hbx
  go_wp2_with fail
  refine ((equalT 1 _ AnyZ AnyZ _ _ _ _ HG13.out HG15.out)).mono ?_
  rintro e w16 he
  have hb16 : Hid (Below w.heap.size w w16) := hid (bl_then (by have := hb15.out; exact blBy) (EqR.val he false ⟨fun h => absurd h (by decide), fun h => absurd h ne56⟩).2)
  obtain ⟨rfl, hbx⟩ := EqR.val he false ⟨fun h => absurd h (by decide), fun h => absurd h ne56⟩
  clear he hbx
  go_wp2
  go_ret
  exact ⟨rfl, hb16.out⟩
end Go.Proofs.YtnfdlnelfnigdaaGreatDoor
namespace Go.Proofs.YtnfdlnelfnigdaaGreatDoor
open Go.RowKit
set_option maxRecDepth 1000000
set_option linter.unusedVariables false
set_option linter.unusedSimpArgs false
set_option maxHeartbeats 1000000
theorem modelAlongW (w : World) (l : List TV) (ta : Option Addr) (tc : Nat) (h : TbR w (.slice ta l.length tc) l) (hk : ∀ x ∈ l, OkV x) (mx : Int) (hm0 : w.cell? ⟨0, 0, none⟩ = some (.int .i64 mx)) (idx : Int) (Z : Nat → Prop) (d : Nat) (hd : d + 1 ≤ 4000000) (cs cf : List Value) (m : CM) (f : CF CM) (hm : MsgE w Z (d + 1) cs m) (hf : FldE w Z (MsgE w Z d) cf f) : Calls Tryz.prog 6 #[.agg #[.slice ta l.length tc], .int .i64 idx, .agg cs.toArray, .agg cf.toArray] w fun e w' => e = .returned (.bool true) ∧ Below w.heap.size w w' := by
  have HT := hid h
  have HK := hid hk
  have HM0 := hid hm0
  have HMM := hid hm
  have HFF := hid hf
  have HAW := hid fun W (hW : Below w.heap.size w W) => awake8 W mx (cell_below hm0 hW)
  obtain ⟨a1, c1, a2, c2, rfl, -⟩ := msg_openD hm
  obtain ⟨ka, kc, va, vc, rfl, -⟩ := fld_open hf
  clear h hk hm0 hm hf
  cases q : isB l idx false with
  | false =>
    have H1 := hid fun W (hW : Below w.heap.size w W) => settleNo W l ta tc (HT.out.kept hW) HK.out mx (cell_below HM0.out hW) idx q a1 a2 m.fs.length c1 m.us.length c2
    have H2 := hid fun W (hW : Below w.heap.size w W) => normalNo W l ta tc (HT.out.kept hW) HK.out mx (cell_below HM0.out hW) idx q a1 a2 m.fs.length c1 m.us.length c2
    clear HT HK HM0 HMM HFF q
    go_enter Tryz.func6, Tryz.ntmps6
    go_wp2_with fail
    refine (HAW.out _ (by exact blBy)).mono ?_
    rintro e w1 ⟨rfl, hb⟩
    have hz : Below w.heap.size w w1 := bl_then (by exact blBy) hb
    have Bt : Hid (Blk w1 (w.heap.size) 46 #[.slice ta l.length tc]) := hid ((((Blk.new _ _ _).kept (below_alloc _)).kept (below_alloc _)).kept hb)
    have Bm : Hid (Blk w1 (w.heap.size + 1) 35 #[.slice a1 m.fs.length c1, .slice a2 m.us.length c2]) := hid (((Blk.newAt (by simp)).kept (below_alloc _)).kept hb)
    have Bf : Hid (Blk w1 (w.heap.size + 1 + 1) 29 #[.int .i64 f.num, .slice ka f.ks.length kc, .slice va f.vs.length vc]) := hid ((Blk.newAt (by simp)).kept hb)
    have HB : Hid (Below w.heap.size w w1) := hid hz
    have xBt := Bt.out.cellF
    have zBt := Bt.out.lt
    have xBm := Bm.out.cellF
    have zBm := Bm.out.lt
    have xBf := Bf.out.cellF
    have zBf := Bf.out.lt
    clear hz hb
    go_wp2_with fail
    refine (H1.out _ (by have := HB.out; exact blBy)).mono ?_
    rintro e w2 ⟨rfl, hb⟩
    have hz := hb
    clear xBt zBt xBm zBm xBf zBf
    replace Bt := hid (Bt.out.kept hz)
    replace Bm := hid (Bm.out.kept hz)
    replace Bf := hid (Bf.out.kept hz)
    replace HB := hid (below_trans HB.out hz)
    have xBt := Bt.out.cellF
    have zBt := Bt.out.lt
    have xBm := Bm.out.cellF
    have zBm := Bm.out.lt
    have xBf := Bf.out.cellF
    have zBf := Bf.out.lt
    clear hz hb
    go_wp2_with fail
    refine (H2.out _ (by have := HB.out; exact blBy)).mono ?_
    rintro e w3 ⟨rfl, hb⟩
    have hz : Below w2.heap.size w2 w3 := bl_then (by exact blBy) hb
    clear xBt zBt xBm zBm xBf zBf
    replace Bt := hid (Bt.out.kept hz)
    replace Bm := hid (Bm.out.kept hz)
    replace Bf := hid (Bf.out.kept hz)
    have Bs : Hid (Blk w3 (w2.heap.size) 35 #[.slice none 0 0, .slice none 0 0]) := hid ((Blk.new _ _ _).kept hb)
    replace HB := hid (below_trans HB.out hz)
    have xBt := Bt.out.cellF
    have zBt := Bt.out.lt
    have xBm := Bm.out.cellF
    have zBm := Bm.out.lt
    have xBf := Bf.out.cellF
    have zBf := Bf.out.lt
    have xBs := Bs.out.cellF
    have zBs := Bs.out.lt
    clear hz hb
    go_wp2
    go_ret
    exact ⟨ret_bool (by simp), HB.out⟩
  | true =>
    obtain ⟨k, hkl, rfl, hg, he⟩ := isB_at q
    have H4 := hid fun W (hW : Below w.heap.size w W) => normalT W l ta tc (HT.out.kept hW) HK.out mx (cell_below HM0.out hW) k hkl hg he Z (d + 1) _ m (HMM.out.kept hW)
    cases hq : keptB l (d + 1) l[k] m with
    | false =>
      have H1 := hid fun W (hW : Below w.heap.size w W) => settleBad W l ta tc (HT.out.kept hW) HK.out mx (cell_below HM0.out hW) k hkl hg he Z (d + 1) _ m (HMM.out.kept hW) hq
      rw [norm_no hq] at H4
      have H2 := H4
      clear HT HK HM0 HMM HFF q hg he hq H4
      go_enter Tryz.func6, Tryz.ntmps6
      go_wp2_with fail
      refine (HAW.out _ (by exact blBy)).mono ?_
      rintro e w1 ⟨rfl, hb⟩
      have hz : Below w.heap.size w w1 := bl_then (by exact blBy) hb
      have Bt : Hid (Blk w1 (w.heap.size) 46 #[.slice ta l.length tc]) := hid ((((Blk.new _ _ _).kept (below_alloc _)).kept (below_alloc _)).kept hb)
      have Bm : Hid (Blk w1 (w.heap.size + 1) 35 #[.slice a1 m.fs.length c1, .slice a2 m.us.length c2]) := hid (((Blk.newAt (by simp)).kept (below_alloc _)).kept hb)
      have Bf : Hid (Blk w1 (w.heap.size + 1 + 1) 29 #[.int .i64 f.num, .slice ka f.ks.length kc, .slice va f.vs.length vc]) := hid ((Blk.newAt (by simp)).kept hb)
      have HB : Hid (Below w.heap.size w w1) := hid hz
      have xBt := Bt.out.cellF
      have zBt := Bt.out.lt
      have xBm := Bm.out.cellF
      have zBm := Bm.out.lt
      have xBf := Bf.out.cellF
      have zBf := Bf.out.lt
      clear hz hb
      go_wp2_with fail
      refine (H1.out _ (by have := HB.out; exact blBy)).mono ?_
      rintro e w2 ⟨rfl, hb⟩
      have hz := hb
      clear xBt zBt xBm zBm xBf zBf
      replace Bt := hid (Bt.out.kept hz)
      replace Bm := hid (Bm.out.kept hz)
      replace Bf := hid (Bf.out.kept hz)
      replace HB := hid (below_trans HB.out hz)
      have xBt := Bt.out.cellF
      have zBt := Bt.out.lt
      have xBm := Bm.out.cellF
      have zBm := Bm.out.lt
      have xBf := Bf.out.cellF
      have zBf := Bf.out.lt
      clear hz hb
      go_wp2_with fail
      refine (H2.out _ (by have := HB.out; exact blBy)).mono ?_
      rintro e w3 ⟨rfl, hb⟩
      have hz : Below w2.heap.size w2 w3 := bl_then (by exact blBy) hb
      clear xBt zBt xBm zBm xBf zBf
      replace Bt := hid (Bt.out.kept hz)
      replace Bm := hid (Bm.out.kept hz)
      replace Bf := hid (Bf.out.kept hz)
      have Bs : Hid (Blk w3 (w2.heap.size) 35 #[.slice none 0 0, .slice none 0 0]) := hid ((Blk.new _ _ _).kept hb)
      replace HB := hid (below_trans HB.out hz)
      have xBt := Bt.out.cellF
      have zBt := Bt.out.lt
      have xBm := Bm.out.cellF
      have zBm := Bm.out.lt
      have xBf := Bf.out.cellF
      have zBf := Bf.out.lt
      have xBs := Bs.out.cellF
      have zBs := Bs.out.lt
      clear hz hb
      go_wp2
      go_ret
      exact ⟨ret_bool (by simp), HB.out⟩
    | true =>
      have H1 := hid fun W (hW : Below w.heap.size w W) => settleOk W l ta tc (HT.out.kept hW) HK.out mx (cell_below HM0.out hW) k hkl hg he Z (d + 1) _ m (HMM.out.kept hW) hq
      have H2 := hid fun W (hW : Below w.heap.size w W) (Z' : Nat → Prop) (ds : List Value) (hs : MsgE W Z' (d + 1) ds (setM l (d + 1) l[k] m)) => normalT W l ta tc (HT.out.kept hW) HK.out mx (cell_below HM0.out hW) k hkl hg he Z' (d + 1) ds _ hs
      have H3 := hid fun W (hW : Below w.heap.size w W) (Z' : Nat → Prop) (ds : List Value) (hs : MsgE W Z' (d + 1) ds (setM l (d + 1) l[k] m)) => settleOk W l ta tc (HT.out.kept hW) HK.out mx (cell_below HM0.out hW) k hkl hg he Z' (d + 1) ds _ hs (set_kept l (d + 1) _ m hq)
      have H5 := hid fun W (hW : Below w.heap.size w W) => setOk W l ta tc (HT.out.kept hW) HK.out mx (cell_below HM0.out hW) k hkl hg he Z d _ _ m f (HMM.out.kept hW) (HFF.out.kept hW) hq
      have H6 := hid fun W (hW : Below w.heap.size w W) (hp : keptB l (d + 1) l[k] (withM l[k].t.fs m f) = true) (Z' : Nat → Prop) (ds : List Value) (hs : MsgE W Z' (d + 1) ds (withM l[k].t.fs m f)) => (show _ from by have := setOk W l ta tc (HT.out.kept hW) HK.out mx (cell_below HM0.out hW) k hkl hg he (fun _ => True) d ds _ _ f (MsgE.go (Keep.refl (fun _ => True) W) (fun _ _ => trivial) (fun _ _ => trivial) _ _ _ hs) ((famF d).go HFF.out (keepT hW) (fun _ _ => trivial) (fun _ _ => trivial)) hp; rw [with_again, hp] at this; exact this : Calls Tryz.prog 25 #[.agg #[.slice ta l.length tc], .int .i64 (k : Int), .agg ds.toArray, .agg _] W (SetR (d + 1) W true (withM l[k].t.fs m f)))
      have H7 := hid fun W (hW : Below w.heap.size w W) (Z' : Nat → Prop) (ds : List Value) (hs : MsgE W Z' (d + 1) ds (withM l[k].t.fs m f)) => typedT W l ta tc (HT.out.kept hW) HK.out mx (cell_below HM0.out hW) k hkl hg he Z' (d + 1) ds _ hs
      have H8 := hid fun W (hp : keptB l (d + 1) l[k] (withM l[k].t.fs m f) = true) (Z' : Nat → Prop) (ds : List Value) (hs : MsgE W Z' (d + 1) ds (withM l[k].t.fs m f)) => (by have := getT d W Z' ds _ hs f.num; rw [with_get hp] at this; exact this : Calls Tryz.prog 26 #[.agg ds.toArray, .int .i64 f.num] W (GetR d W (some f)))
      have HEQ := hid (norm_eq hq)
      have HDP := hid (set_depth l (d + 1) l[k] m)
      have HD1 := hid fun W (Z' : Nat → Prop) (ds : List Value) (hs : MsgE W Z' (d + 1) ds (setM l (d + 1) l[k] m)) => depthT (d + 1) hd W Z' ds _ hs
      have HD2 := hid fun W (hW : Below w.heap.size w W) => depthT (d + 1) hd W Z _ m (HMM.out.kept hW)
      rw [norm_set hq] at H2
      rw [set_idem] at H3
      generalize normB l (d + 1) l[k] m = nb at *
      generalize setM l (d + 1) l[k] m = sm at *
      generalize keptB l (d + 1) l[k] (withM l[k].t.fs m f) = kb at *
      generalize withM l[k].t.fs m f = wm at *
      clear HT HK HM0 q hg he hq
      go_enter Tryz.func6, Tryz.ntmps6
      go_wp2_with fail
      refine (HAW.out _ (by exact blBy)).mono ?_
      rintro e w1 ⟨rfl, hb⟩
      have hz : Below w.heap.size w w1 := bl_then (by exact blBy) hb
      have Bt : Hid (Blk w1 (w.heap.size) 46 #[.slice ta l.length tc]) := hid ((((Blk.new _ _ _).kept (below_alloc _)).kept (below_alloc _)).kept hb)
      have Bm : Hid (Blk w1 (w.heap.size + 1) 35 #[.slice a1 m.fs.length c1, .slice a2 m.us.length c2]) := hid (((Blk.newAt (by simp)).kept (below_alloc _)).kept hb)
      have Bf : Hid (Blk w1 (w.heap.size + 1 + 1) 29 #[.int .i64 f.num, .slice ka f.ks.length kc, .slice va f.vs.length vc]) := hid ((Blk.newAt (by simp)).kept hb)
      have HB : Hid (Below w.heap.size w w1) := hid hz
      have xBt := Bt.out.cellF
      have zBt := Bt.out.lt
      have xBm := Bm.out.cellF
      have zBm := Bm.out.lt
      have xBf := Bf.out.cellF
      have zBf := Bf.out.lt
      clear hz hb
      go_wp2_with fail
      refine (H1.out _ (by have := HB.out; exact blBy)).mono ?_
      rintro e w2 ⟨ds, rfl, hn, hb⟩
      have hz := hb
      clear xBt zBt xBm zBm xBf zBf
      replace Bt := hid (Bt.out.kept hz)
      replace Bm := hid (Bm.out.kept hz)
      replace Bf := hid (Bf.out.kept hz)
      replace HB := hid (below_trans HB.out hz)
      have xBt := Bt.out.cellF
      have zBt := Bt.out.lt
      have xBm := Bm.out.cellF
      have zBm := Bm.out.lt
      have xBf := Bf.out.cellF
      have zBf := Bf.out.lt
      clear hz hb
      obtain ⟨sa, sc, ua, uc, rfl, -⟩ := msg_openD hn
      have HN : Hid (MsgE w2 AnyZ (d + 1) [.slice sa sm.fs.length sc, .slice ua sm.us.length uc] sm) := hid hn.any
      clear hn
      go_wp2_with fail
      refine (H2.out _ (by have := HB.out; exact blBy) _ _ (MsgE.kept HN.out (by exact blBy))).mono ?_
      rintro e w3 ⟨rfl, hb⟩
      have hz : Below w2.heap.size w2 w3 := bl_then (by exact blBy) hb
      clear xBt zBt xBm zBm xBf zBf
      replace Bt := hid (Bt.out.kept hz)
      replace Bm := hid (Bm.out.kept hz)
      replace Bf := hid (Bf.out.kept hz)
      replace HN := hid (MsgE.kept HN.out hz)
      have Bs : Hid (Blk w3 (w2.heap.size) 35 #[.slice sa sm.fs.length sc, .slice ua sm.us.length uc]) := hid ((Blk.new _ _ _).kept hb)
      replace HB := hid (below_trans HB.out hz)
      have xBt := Bt.out.cellF
      have zBt := Bt.out.lt
      have xBm := Bm.out.cellF
      have zBm := Bm.out.lt
      have xBf := Bf.out.cellF
      have zBf := Bf.out.lt
      have xBs := Bs.out.cellF
      have zBs := Bs.out.lt
      clear hz hb
      go_wp2_with fail
      refine (H3.out _ (by have := HB.out; exact blBy) _ _ HN.out).mono ?_
      rintro e w4 ⟨ds, rfl, hn, hb⟩
      have hz := hb
      clear xBt zBt xBm zBm xBf zBf xBs zBs
      replace Bt := hid (Bt.out.kept hz)
      replace Bm := hid (Bm.out.kept hz)
      replace Bf := hid (Bf.out.kept hz)
      replace Bs := hid (Bs.out.kept hz)
      replace HN := hid (MsgE.kept HN.out hz)
      replace HB := hid (below_trans HB.out hz)
      have xBt := Bt.out.cellF
      have zBt := Bt.out.lt
      have xBm := Bm.out.cellF
      have zBm := Bm.out.lt
      have xBf := Bf.out.cellF
      have zBf := Bf.out.lt
      have xBs := Bs.out.cellF
      have zBs := Bs.out.lt
      clear hz hb
      obtain ⟨sa2, sc2, ua2, uc2, rfl, -⟩ := msg_openD hn
      have HA : Hid (MsgE w4 AnyZ (d + 1) [.slice sa2 sm.fs.length sc2, .slice ua2 sm.us.length uc2] sm) := hid hn.any
      clear hn
      go_wp2_with fail
      refine (H4.out _ (by have := HB.out; exact blBy)).mono ?_
      rintro e w5 ⟨rfl, hb⟩
      have hz : Below w4.heap.size w4 w5 := bl_then (by exact blBy) hb
      clear xBt zBt xBm zBm xBf zBf xBs zBs
      replace Bt := hid (Bt.out.kept hz)
      replace Bm := hid (Bm.out.kept hz)
      replace Bf := hid (Bf.out.kept hz)
      replace Bs := hid (Bs.out.kept hz)
      replace HN := hid (MsgE.kept HN.out hz)
      replace HA := hid (MsgE.kept HA.out hz)
      have Ba : Hid (Blk w5 (w4.heap.size) 35 #[.slice sa2 sm.fs.length sc2, .slice ua2 sm.us.length uc2]) := hid ((Blk.new _ _ _).kept hb)
      replace HB := hid (below_trans HB.out hz)
      have xBt := Bt.out.cellF
      have zBt := Bt.out.lt
      have xBm := Bm.out.cellF
      have zBm := Bm.out.lt
      have xBf := Bf.out.cellF
      have zBf := Bf.out.lt
      have xBs := Bs.out.cellF
      have zBs := Bs.out.lt
      have xBa := Ba.out.cellF
      have zBa := Ba.out.lt
      clear hz hb
      go_wp2_with fail
      clear xBt zBt xBm zBm xBf zBf xBs zBs xBa zBa
      have HSK : Hid (∀ W, Below w5.heap.size w5 W → (fun W => (∀ k, W.cell? ⟨w.heap.size + 1, k, none⟩ = #[.slice a1 m.fs.length c1, .slice a2 m.us.length c2][k]?) ∧ (∀ k, W.cell? ⟨w2.heap.size, k, none⟩ = #[.slice sa sm.fs.length sc, .slice ua sm.us.length uc][k]?) ∧ (∀ k, W.cell? ⟨w4.heap.size, k, none⟩ = #[.slice sa2 sm.fs.length sc2, .slice ua2 sm.us.length uc2][k]?)) W) := hid fun W hW => ⟨(Bm.out.kept hW).cellF, (Bs.out.kept hW).cellF, (Ba.out.kept hW).cellF⟩
      have hdp : ((depM (d + 1) m : Int) < (depM (d + 1) sm : Int)) = False := eq_false (by have := HDP.out; omega)
      have hnb : (nb != nb) = false := by simp
      refine wp_region_held_drew (S := (fun W => (∀ k, W.cell? ⟨w.heap.size + 1, k, none⟩ = #[.slice a1 m.fs.length c1, .slice a2 m.us.length c2][k]?) ∧ (∀ k, W.cell? ⟨w2.heap.size, k, none⟩ = #[.slice sa sm.fs.length sc, .slice ua sm.us.length uc][k]?) ∧ (∀ k, W.cell? ⟨w4.heap.size, k, none⟩ = #[.slice sa2 sm.fs.length sc2, .slice ua2 sm.us.length uc2][k]?))) (by kernel_rfl) ?_ (fun hHeld => ?_)
      · exact HSK.out _ (below_drew1 _)
      refine wpAnyH_take (i := 0) (v := ?_) rfl (by kernel_rfl) (by kernel_rfl) (by kernel_rfl) (fun _ _ _ h => h) (Or.inl ⟨by rfl, ?_⟩) (by assumption) ?_
      rotate_left
      · (intro w hSw; (try dsimp only at hSw); go_simp; (try with_reducible rfl))
      try simp only [Act.put, List.getElem_toArray, List.getElem_cons_succ, List.getElem_cons_zero, List.setIfInBounds_toArray, List.set_cons_zero, List.set_cons_succ]
      refine wpAnyH_take (i := 1) (v := ?_) rfl (by kernel_rfl) (by kernel_rfl) (by kernel_rfl) (fun _ _ _ h => h) (Or.inl ⟨by rfl, ?_⟩) (by assumption) ?_
      rotate_left
      · (intro w hSw; (try dsimp only at hSw); go_simp; (try with_reducible rfl))
      try simp only [Act.put, List.getElem_toArray, List.getElem_cons_succ, List.getElem_cons_zero, List.setIfInBounds_toArray, List.set_cons_zero, List.set_cons_succ]
      refine wpAnyH_take (i := 2) (v := ?_) rfl (by kernel_rfl) (by kernel_rfl) (by kernel_rfl) (fun _ _ _ h => h) (Or.inl ⟨by rfl, ?_⟩) (by assumption) ?_
      rotate_left
      · (intro w hSw; (try dsimp only at hSw); go_simp; (try with_reducible rfl))
      try simp only [Act.put, List.getElem_toArray, List.getElem_cons_succ, List.getElem_cons_zero, List.setIfInBounds_toArray, List.set_cons_zero, List.set_cons_succ]
      refine wpAnyH_take (i := 3) (v := ?_) rfl (by kernel_rfl) (by kernel_rfl) (by kernel_rfl) (fun _ _ _ h => h) (Or.inl ⟨by rfl, ?_⟩) (by assumption) ?_
      rotate_left
      · (intro w hSw; (try dsimp only at hSw); go_simp; (try with_reducible rfl))
      try simp only [Act.put, List.getElem_toArray, List.getElem_cons_succ, List.getElem_cons_zero, List.setIfInBounds_toArray, List.set_cons_zero, List.set_cons_succ]
      refine wpAnyH_take (i := 4) (v := ?_) rfl (by kernel_rfl) (by kernel_rfl) (by kernel_rfl) (fun _ _ _ h => h) (Or.inl ⟨by rfl, ?_⟩) (by assumption) ?_
      rotate_left
      · (intro w hSw; (try dsimp only at hSw); go_simp; (try with_reducible rfl))
      try simp only [Act.put, List.getElem_toArray, List.getElem_cons_succ, List.getElem_cons_zero, List.setIfInBounds_toArray, List.set_cons_zero, List.set_cons_succ]
      refine wpAnyH_take (i := 5) (v := ?_) rfl (by kernel_rfl) (by kernel_rfl) (by kernel_rfl) (fun _ _ _ h => h) (Or.inl ⟨by rfl, ?_⟩) (by assumption) ?_
      rotate_left
      · (intro w hSw; (try dsimp only at hSw); go_simp; (try with_reducible rfl))
      try simp only [Act.put, List.getElem_toArray, List.getElem_cons_succ, List.getElem_cons_zero, List.setIfInBounds_toArray, List.set_cons_zero, List.set_cons_succ]
      refine wpAnyH_take (i := 6) (v := ?_) rfl (by kernel_rfl) (by kernel_rfl) (by kernel_rfl) (fun _ _ _ h => h) (Or.inl ⟨by rfl, ?_⟩) (by assumption) ?_
      rotate_left
      · (intro w hSw; (try dsimp only at hSw); go_simp; (try with_reducible rfl))
      try simp only [Act.put, List.getElem_toArray, List.getElem_cons_succ, List.getElem_cons_zero, List.setIfInBounds_toArray, List.set_cons_zero, List.set_cons_succ]
      refine wpAnyH_take (i := 7) (v := ?_) rfl (by kernel_rfl) (by kernel_rfl) (by kernel_rfl) (fun _ _ _ h => h) (Or.inl ⟨by rfl, ?_⟩) (by assumption) ?_
      rotate_left
      · (intro w hSw; (try dsimp only at hSw); go_simp; (try with_reducible rfl))
      try simp only [Act.put, List.getElem_toArray, List.getElem_cons_succ, List.getElem_cons_zero, List.setIfInBounds_toArray, List.set_cons_zero, List.set_cons_succ]
      refine wpAnyH_take (i := 8) (v := ?_) rfl (by kernel_rfl) (by kernel_rfl) (by kernel_rfl) (fun _ _ _ h => h) (Or.inl ⟨by rfl, ?_⟩) (by assumption) ?_
      rotate_left
      · (intro w hSw; (try dsimp only at hSw); go_simp; (try with_reducible rfl))
      try simp only [Act.put, List.getElem_toArray, List.getElem_cons_succ, List.getElem_cons_zero, List.setIfInBounds_toArray, List.set_cons_zero, List.set_cons_succ]
      refine wpAnyH_take (i := 9) (v := ?_) rfl (by kernel_rfl) (by kernel_rfl) (by kernel_rfl) (fun _ _ _ h => h) (Or.inl ⟨by rfl, ?_⟩) (by assumption) ?_
      rotate_left
      · (intro w hSw; (try dsimp only at hSw); go_simp; (try with_reducible rfl))
      try simp only [Act.put, List.getElem_toArray, List.getElem_cons_succ, List.getElem_cons_zero, List.setIfInBounds_toArray, List.set_cons_zero, List.set_cons_succ]
      refine wpAnyH_take (i := 10) (v := ?_) rfl (by kernel_rfl) (by kernel_rfl) (by kernel_rfl) (fun _ _ _ h => h) (Or.inl ⟨by rfl, ?_⟩) (by assumption) ?_
      rotate_left
      · (intro w hSw; (try dsimp only at hSw); go_simp; (try with_reducible rfl))
      try simp only [Act.put, List.getElem_toArray, List.getElem_cons_succ, List.getElem_cons_zero, List.setIfInBounds_toArray, List.set_cons_zero, List.set_cons_succ]
      refine wpAnyH_take (i := 11) (v := ?_) rfl (by kernel_rfl) (by kernel_rfl) (by kernel_rfl) (fun _ _ _ h => h) (Or.inl ⟨by rfl, ?_⟩) (by assumption) ?_
      rotate_left
      · (intro w hSw; (try dsimp only at hSw); go_simp; (try with_reducible rfl))
      try simp only [Act.put, List.getElem_toArray, List.getElem_cons_succ, List.getElem_cons_zero, List.setIfInBounds_toArray, List.set_cons_zero, List.set_cons_succ]
      refine wpAnyH_take (i := 12) (v := ?_) rfl (by kernel_rfl) (by kernel_rfl) (by kernel_rfl) (fun _ _ _ h => h) (Or.inl ⟨by rfl, ?_⟩) (by assumption) ?_
      rotate_left
      · (intro w hSw; (try dsimp only at hSw); go_simp; (try with_reducible rfl))
      try simp only [Act.put, List.getElem_toArray, List.getElem_cons_succ, List.getElem_cons_zero, List.setIfInBounds_toArray, List.set_cons_zero, List.set_cons_succ]
      refine wpAnyH_ready (rs := [13]) (by kernel_rfl) (by simp) ?_
      refine AllReadyH.cons rfl (fun K hK => ?_) AllReadyH.nil
      go_simp
      go_wp2_with (go_at_call 24; refine (equalT (d + 1) _ AnyZ AnyZ [.slice sa2 sm.fs.length sc2, .slice ua2 sm.us.length uc2] [.slice sa sm.fs.length sc, .slice ua sm.us.length uc] sm sm (HA.out.kept (below_drew1 _)) (HN.out.kept (below_drew1 _))).mono ?_; rintro e u1 hE; obtain ⟨rfl, hbu⟩ := EqR.val hE true ⟨fun _ => rfl, fun _ => rfl⟩; have K1 : Hid (Below w5.heap.size w5 u1) := hid (bl_then (below_drew1 _) hbu); clear hE hbu)
      refine hK.out _ _ ?_ (fun hHeld => ?_)
      · first | assumption | exact HSK.out _ K1.out
      clear hK K
      try simp only [Act.put, List.getElem_toArray, List.getElem_cons_succ, List.getElem_cons_zero, List.setIfInBounds_toArray, List.set_cons_zero, List.set_cons_succ]
      refine wpAnyH_take (i := 14) (v := ?_) rfl (by kernel_rfl) (by kernel_rfl) (by kernel_rfl) (fun _ _ _ h => h) (Or.inl ⟨by rfl, ?_⟩) (by assumption) ?_
      rotate_left
      · (intro w hSw; (try dsimp only at hSw); go_simp; (try with_reducible rfl))
      try simp only [Act.put, List.getElem_toArray, List.getElem_cons_succ, List.getElem_cons_zero, List.setIfInBounds_toArray, List.set_cons_zero, List.set_cons_succ]
      refine wpAnyH_take (i := 15) (v := ?_) rfl (by kernel_rfl) (by kernel_rfl) (by kernel_rfl) (fun _ _ _ h => h) (Or.inl ⟨by rfl, ?_⟩) (by assumption) ?_
      rotate_left
      · (intro w hSw; (try dsimp only at hSw); go_simp; (try with_reducible rfl))
      try simp only [Act.put, List.getElem_toArray, List.getElem_cons_succ, List.getElem_cons_zero, List.setIfInBounds_toArray, List.set_cons_zero, List.set_cons_succ]
      refine wpAnyH_take (i := 16) (v := ?_) rfl (by kernel_rfl) (by kernel_rfl) (by kernel_rfl) (fun _ _ _ h => h) (Or.inl ⟨by rfl, ?_⟩) (by assumption) ?_
      rotate_left
      · (intro w hSw; (try dsimp only at hSw); go_simp; (try with_reducible rfl))
      try simp only [Act.put, List.getElem_toArray, List.getElem_cons_succ, List.getElem_cons_zero, List.setIfInBounds_toArray, List.set_cons_zero, List.set_cons_succ]
      refine wpAnyH_take (i := 17) (v := ?_) rfl (by kernel_rfl) (by kernel_rfl) (by kernel_rfl) (fun _ _ _ h => h) (Or.inl ⟨by rfl, ?_⟩) (by assumption) ?_
      rotate_left
      · (intro w hSw; (try dsimp only at hSw); go_simp; (try with_reducible rfl))
      try simp only [Act.put, List.getElem_toArray, List.getElem_cons_succ, List.getElem_cons_zero, List.setIfInBounds_toArray, List.set_cons_zero, List.set_cons_succ]
      refine wpAnyH_take (i := 18) (v := ?_) rfl (by kernel_rfl) (by kernel_rfl) (by kernel_rfl) (fun _ _ _ h => h) (Or.inl ⟨by rfl, ?_⟩) (by assumption) ?_
      rotate_left
      · (intro w hSw; (try dsimp only at hSw); go_simp; (try with_reducible rfl))
      try simp only [Act.put, List.getElem_toArray, List.getElem_cons_succ, List.getElem_cons_zero, List.setIfInBounds_toArray, List.set_cons_zero, List.set_cons_succ]
      refine wpAnyH_take (i := 19) (v := ?_) rfl (by kernel_rfl) (by kernel_rfl) (by kernel_rfl) (fun _ _ _ h => h) (Or.inl ⟨by rfl, ?_⟩) (by assumption) ?_
      rotate_left
      · (intro w hSw; (try dsimp only at hSw); go_simp; (try with_reducible rfl))
      try simp only [Act.put, List.getElem_toArray, List.getElem_cons_succ, List.getElem_cons_zero, List.setIfInBounds_toArray, List.set_cons_zero, List.set_cons_succ]
      refine wpAnyH_take (i := 20) (v := ?_) rfl (by kernel_rfl) (by kernel_rfl) (by kernel_rfl) (fun _ _ _ h => h) (Or.inl ⟨by rfl, ?_⟩) (by assumption) ?_
      rotate_left
      · (intro w hSw; (try dsimp only at hSw); go_simp; (try with_reducible rfl))
      try simp only [Act.put, List.getElem_toArray, List.getElem_cons_succ, List.getElem_cons_zero, List.setIfInBounds_toArray, List.set_cons_zero, List.set_cons_succ]
      refine wpAnyH_take (i := 21) (v := ?_) rfl (by kernel_rfl) (by kernel_rfl) (by kernel_rfl) (fun _ _ _ h => h) (Or.inl ⟨by rfl, ?_⟩) (by assumption) ?_
      rotate_left
      · (intro w hSw; (try dsimp only at hSw); go_simp; (try with_reducible rfl))
      try simp only [Act.put, List.getElem_toArray, List.getElem_cons_succ, List.getElem_cons_zero, List.setIfInBounds_toArray, List.set_cons_zero, List.set_cons_succ]
      refine wpAnyH_take (i := 22) (v := ?_) rfl (by kernel_rfl) (by kernel_rfl) (by kernel_rfl) (fun _ _ _ h => h) (Or.inl ⟨by rfl, ?_⟩) (by assumption) ?_
      rotate_left
      · (intro w hSw; (try dsimp only at hSw); go_simp; (try with_reducible rfl))
      try simp only [Act.put, List.getElem_toArray, List.getElem_cons_succ, List.getElem_cons_zero, List.setIfInBounds_toArray, List.set_cons_zero, List.set_cons_succ]
      refine wpAnyH_take (i := 23) (v := ?_) rfl (by kernel_rfl) (by kernel_rfl) (by kernel_rfl) (fun _ _ _ h => h) (Or.inl ⟨by rfl, ?_⟩) (by assumption) ?_
      rotate_left
      · (intro w hSw; (try dsimp only at hSw); go_simp; (try with_reducible rfl))
      try simp only [Act.put, List.getElem_toArray, List.getElem_cons_succ, List.getElem_cons_zero, List.setIfInBounds_toArray, List.set_cons_zero, List.set_cons_succ]
      refine wpAnyH_ready (rs := [24]) (by kernel_rfl) (by simp) ?_
      refine AllReadyH.cons rfl (fun K hK => ?_) AllReadyH.nil
      go_simp
      go_wp2_with (go_at_call 24; refine (equalT (d + 1) _ AnyZ Z [.slice sa sm.fs.length sc, .slice ua sm.us.length uc] [.slice a1 m.fs.length c1, .slice a2 m.us.length c2] sm m (HN.out.kept K1.out) (HMM.out.kept (below_trans HB.out K1.out))).mono ?_; rintro e u2 hE; obtain ⟨rfl, hbu⟩ := EqR.val hE nb HEQ.out; have K2 : Hid (Below w5.heap.size w5 u2) := hid (below_trans K1.out hbu); clear hE hbu)
      refine hK.out _ _ ?_ (fun hHeld => ?_)
      · first | assumption | exact HSK.out _ K2.out
      clear hK K
      try simp only [Act.put, List.getElem_toArray, List.getElem_cons_succ, List.getElem_cons_zero, List.setIfInBounds_toArray, List.set_cons_zero, List.set_cons_succ]
      refine wpAnyH_take (i := 25) (v := ?_) rfl (by kernel_rfl) (by kernel_rfl) (by kernel_rfl) (fun _ _ _ h => h) (Or.inl ⟨by rfl, ?_⟩) (by assumption) ?_
      rotate_left
      · (intro w hSw; (try dsimp only at hSw); go_simp; (try with_reducible rfl))
      try simp only [Act.put, List.getElem_toArray, List.getElem_cons_succ, List.getElem_cons_zero, List.setIfInBounds_toArray, List.set_cons_zero, List.set_cons_succ]
      refine wpAnyH_take (i := 26) (v := ?_) rfl (by kernel_rfl) (by kernel_rfl) (by kernel_rfl) (fun _ _ _ h => h) (Or.inl ⟨by rfl, ?_⟩) (by assumption) ?_
      rotate_left
      · (intro w hSw; (try dsimp only at hSw); go_simp; (try with_reducible rfl))
      try simp only [Act.put, List.getElem_toArray, List.getElem_cons_succ, List.getElem_cons_zero, List.setIfInBounds_toArray, List.set_cons_zero, List.set_cons_succ]
      refine wpAnyH_take (i := 27) (v := ?_) rfl (by kernel_rfl) (by kernel_rfl) (by kernel_rfl) (fun _ _ _ h => h) (Or.inl ⟨by rfl, ?_⟩) (by assumption) ?_
      rotate_left
      · (intro w hSw; (try dsimp only at hSw); go_simp; (try with_reducible rfl))
      try simp only [Act.put, List.getElem_toArray, List.getElem_cons_succ, List.getElem_cons_zero, List.setIfInBounds_toArray, List.set_cons_zero, List.set_cons_succ]
      refine wpAnyH_take (i := 28) (v := ?_) rfl (by kernel_rfl) (by kernel_rfl) (by kernel_rfl) (fun _ _ _ h => h) (Or.inl ⟨by rfl, ?_⟩) (by assumption) ?_
      rotate_left
      · (intro w hSw; (try dsimp only at hSw); go_simp; (try with_reducible rfl))
      try simp only [Act.put, List.getElem_toArray, List.getElem_cons_succ, List.getElem_cons_zero, List.setIfInBounds_toArray, List.set_cons_zero, List.set_cons_succ]
      refine wpAnyH_take (i := 30) (v := ?_) rfl (by kernel_rfl) (by kernel_rfl) (by kernel_rfl) (fun _ _ _ h => h) (Or.inl ⟨by rfl, ?_⟩) (by assumption) ?_
      rotate_left
      · (intro w hSw; (try dsimp only at hSw); go_simp; (try with_reducible rfl))
      try simp only [Act.put, List.getElem_toArray, List.getElem_cons_succ, List.getElem_cons_zero, List.setIfInBounds_toArray, List.set_cons_zero, List.set_cons_succ]
      refine wpAnyH_ready (rs := [29]) (by kernel_rfl) (by simp) ?_
      refine AllReadyH.cons rfl (fun K hK => ?_) AllReadyH.nil
      go_simp
      go_wp2_with (go_at_call 15; refine (HD1.out _ AnyZ [.slice sa sm.fs.length sc, .slice ua sm.us.length uc] (HN.out.kept K2.out)).mono ?_; rintro e u3 ⟨rfl, hbu⟩; have K3 : Hid (Below w5.heap.size w5 u3) := hid (below_trans K2.out hbu); clear hbu)
      refine hK.out _ _ ?_ (fun hHeld => ?_)
      · first | assumption | exact HSK.out _ K3.out
      clear hK K
      try simp only [Act.put, List.getElem_toArray, List.getElem_cons_succ, List.getElem_cons_zero, List.setIfInBounds_toArray, List.set_cons_zero, List.set_cons_succ]
      refine wpAnyH_ready (rs := [31]) (by kernel_rfl) (by simp) ?_
      refine AllReadyH.cons rfl (fun K hK => ?_) AllReadyH.nil
      go_simp
      go_wp2_with (go_at_call 15; refine (HD2.out _ (below_trans HB.out K3.out)).mono ?_; rintro e w6 ⟨rfl, hbu⟩; have K4 : Hid (Below w5.heap.size w5 w6) := hid (below_trans K3.out hbu); clear hbu)
      refine hK.out _ _ ?_ (fun hHeld => ?_)
      · first | assumption | exact HSK.out _ K4.out
      clear hK K
      try simp only [Act.put, List.getElem_toArray, List.getElem_cons_succ, List.getElem_cons_zero, List.setIfInBounds_toArray, List.set_cons_zero, List.set_cons_succ]
      refine wpAnyH_take (i := 32) (v := ?_) rfl (by kernel_rfl) (by kernel_rfl) (by kernel_rfl) (fun _ _ _ h => h) (Or.inl ⟨by rfl, ?_⟩) (by assumption) ?_
      rotate_left
      · (intro w hSw; (try dsimp only at hSw); go_simp; (try with_reducible rfl))
      try simp only [Act.put, List.getElem_toArray, List.getElem_cons_succ, List.getElem_cons_zero, List.setIfInBounds_toArray, List.set_cons_zero, List.set_cons_succ]
      refine wpAnyH_take (i := 33) (v := ?_) rfl (by kernel_rfl) (by kernel_rfl) (by kernel_rfl) (fun _ _ _ h => h) (Or.inl ⟨by rfl, ?_⟩) (by assumption) ?_
      rotate_left
      · (intro w hSw; (try dsimp only at hSw); go_simp; (try with_reducible rfl))
      try simp only [Act.put, List.getElem_toArray, List.getElem_cons_succ, List.getElem_cons_zero, List.setIfInBounds_toArray, List.set_cons_zero, List.set_cons_succ]
      refine wpAnyH_done (by kernel_rfl) ?_ _
      have hb := K4.out
      clear hHeld HSK K1 K2 K3 K4
      have hz := hb
      replace Bt := hid (Bt.out.kept hz)
      replace Bm := hid (Bm.out.kept hz)
      replace Bf := hid (Bf.out.kept hz)
      replace Bs := hid (Bs.out.kept hz)
      replace Ba := hid (Ba.out.kept hz)
      replace HN := hid (MsgE.kept HN.out hz)
      replace HA := hid (MsgE.kept HA.out hz)
      replace HB := hid (below_trans HB.out hz)
      have xBt := Bt.out.cellF
      have zBt := Bt.out.lt
      have xBm := Bm.out.cellF
      have zBm := Bm.out.lt
      have xBf := Bf.out.cellF
      have zBf := Bf.out.lt
      have xBs := Bs.out.cellF
      have zBs := Bs.out.lt
      have xBa := Ba.out.cellF
      have zBa := Ba.out.lt
      clear hz hb
      clear Bs Ba HN HA xBs zBs xBa zBa H1 H2 H3 H4 HD1 HD2 HEQ HDP hdp
      cases kb with
      | false =>
        go_wp2_with fail
        refine (H5.out _ (by have := HB.out; exact blBy)).mono ?_
        rintro e w7 ⟨-, h2, hb⟩
        have hz := hb
        clear xBt zBt xBm zBm xBf zBf
        replace Bt := hid (Bt.out.kept hz)
        replace Bm := hid (Bm.out.kept hz)
        replace Bf := hid (Bf.out.kept hz)
        replace HB := hid (below_trans HB.out hz)
        have xBt := Bt.out.cellF
        have zBt := Bt.out.lt
        have xBm := Bm.out.cellF
        have zBm := Bm.out.lt
        have xBf := Bf.out.cellF
        have zBf := Bf.out.lt
        clear hz hb
        have h3 := h2 rfl
        subst h3
        go_wp2
        go_ret
        exact ⟨ret_bool (by simp), by have := HB.out; exact blBy⟩
      | true =>
        go_wp2_with fail
        refine (H5.out _ (by have := HB.out; exact blBy)).mono ?_
        rintro e w7 ⟨h1, -, hb⟩
        have hz := hb
        clear xBt zBt xBm zBm xBf zBf
        replace Bt := hid (Bt.out.kept hz)
        replace Bm := hid (Bm.out.kept hz)
        replace Bf := hid (Bf.out.kept hz)
        replace HB := hid (below_trans HB.out hz)
        have xBt := Bt.out.cellF
        have zBt := Bt.out.lt
        have xBm := Bm.out.cellF
        have zBm := Bm.out.lt
        have xBf := Bf.out.cellF
        have zBf := Bf.out.lt
        clear hz hb
        obtain ⟨ds, h3, hn⟩ := h1 rfl
        subst h3
        obtain ⟨pa, pc, ra, rc, rfl, -⟩ := msg_openD hn
        have HP : Hid (MsgE w7 AnyZ (d + 1) [.slice pa wm.fs.length pc, .slice ra wm.us.length rc] wm) := hid hn.any
        clear hn h1
        go_wp2_with fail
        refine (H8.out _ (by first | trivial | rfl) _ _ (MsgE.kept HP.out (by exact blBy))).mono ?_
        rintro e w8 ⟨es, rfl, hx, hb⟩
        have hz : Below w7.heap.size w7 w8 := bl_then (by exact blBy) hb
        clear xBt zBt xBm zBm xBf zBf
        replace Bt := hid (Bt.out.kept hz)
        replace Bm := hid (Bm.out.kept hz)
        replace Bf := hid (Bf.out.kept hz)
        replace HP := hid (MsgE.kept HP.out hz)
        have Bp : Hid (Blk w8 (w7.heap.size) 35 #[.slice pa wm.fs.length pc, .slice ra wm.us.length rc]) := hid ((Blk.new _ _ _).kept hb)
        replace HB := hid (below_trans HB.out hz)
        have xBt := Bt.out.cellF
        have zBt := Bt.out.lt
        have xBm := Bm.out.cellF
        have zBm := Bm.out.lt
        have xBf := Bf.out.cellF
        have zBf := Bf.out.lt
        have xBp := Bp.out.cellF
        have zBp := Bp.out.lt
        clear hz hb
        replace hx := FldE.go hx (Keep.refl (fun _ => True) _) (fun _ _ => trivial) (fun _ _ => trivial) (fun _ _ h => MsgE.any h)
        rw [Option.getD_some] at hx
        obtain ⟨xa, xc, ya, yc, rfl, -⟩ := fld_open hx
        have HX : Hid (FldE w8 AnyZ (MsgE w8 AnyZ d) [.int .i64 f.num, .slice xa f.ks.length xc, .slice ya f.vs.length yc] f) := hid hx
        clear hx
        go_wp2_with fail
        refine (H6.out _ (by have := HB.out; exact blBy) (by first | trivial | rfl) _ _ (MsgE.kept HP.out (by exact blBy))).mono ?_
        rintro e w9 ⟨h1, -, hb⟩
        have hz : Below w8.heap.size w8 w9 := bl_then (by exact blBy) hb
        clear xBt zBt xBm zBm xBf zBf xBp zBp
        replace Bt := hid (Bt.out.kept hz)
        replace Bm := hid (Bm.out.kept hz)
        replace Bf := hid (Bf.out.kept hz)
        replace Bp := hid (Bp.out.kept hz)
        replace HP := hid (MsgE.kept HP.out hz)
        replace HX := hid (FldE.kept HX.out hz)
        have Bx : Hid (Blk w9 (w8.heap.size) 29 #[.int .i64 f.num, .slice xa f.ks.length xc, .slice ya f.vs.length yc]) := hid ((Blk.new _ _ _).kept hb)
        replace HB := hid (below_trans HB.out hz)
        have xBt := Bt.out.cellF
        have zBt := Bt.out.lt
        have xBm := Bm.out.cellF
        have zBm := Bm.out.lt
        have xBf := Bf.out.cellF
        have zBf := Bf.out.lt
        have xBp := Bp.out.cellF
        have zBp := Bp.out.lt
        have xBx := Bx.out.cellF
        have zBx := Bx.out.lt
        clear hz hb
        obtain ⟨ds, h3, hn⟩ := h1 rfl
        subst h3
        obtain ⟨qa, qc, ua3, uc3, rfl, -⟩ := msg_openD hn
        have HQ : Hid (MsgE w9 AnyZ (d + 1) [.slice qa wm.fs.length qc, .slice ua3 wm.us.length uc3] wm) := hid hn.any
        clear hn h1
        go_wp2_with fail
        refine (H7.out _ (by have := HB.out; exact blBy) _ _ (MsgE.kept HP.out (by exact blBy))).mono ?_
        rintro e w10 ⟨rfl, hb⟩
        have hz : Below w9.heap.size w9 w10 := bl_then (by exact blBy) hb
        clear xBt zBt xBm zBm xBf zBf xBp zBp xBx zBx
        replace Bt := hid (Bt.out.kept hz)
        replace Bm := hid (Bm.out.kept hz)
        replace Bf := hid (Bf.out.kept hz)
        replace Bp := hid (Bp.out.kept hz)
        replace Bx := hid (Bx.out.kept hz)
        replace HP := hid (MsgE.kept HP.out hz)
        replace HX := hid (FldE.kept HX.out hz)
        replace HQ := hid (MsgE.kept HQ.out hz)
        have Bq : Hid (Blk w10 (w9.heap.size) 35 #[.slice qa wm.fs.length qc, .slice ua3 wm.us.length uc3]) := hid ((Blk.new _ _ _).kept hb)
        replace HB := hid (below_trans HB.out hz)
        have xBt := Bt.out.cellF
        have zBt := Bt.out.lt
        have xBm := Bm.out.cellF
        have zBm := Bm.out.lt
        have xBf := Bf.out.cellF
        have zBf := Bf.out.lt
        have xBp := Bp.out.cellF
        have zBp := Bp.out.lt
        have xBx := Bx.out.cellF
        have zBx := Bx.out.lt
        have xBq := Bq.out.cellF
        have zBq := Bq.out.lt
        clear hz hb
        go_wp2_with fail
        refine (sameFieldD d (equalD d) _ AnyZ Z [.int .i64 f.num, .slice xa f.ks.length xc, .slice ya f.vs.length yc] [.int .i64 f.num, .slice ka f.ks.length kc, .slice va f.vs.length vc] f f HX.out (HFF.out.kept HB.out)).mono ?_
        rintro e w11 hE
        obtain ⟨rfl, hb⟩ := EqR.val hE true ⟨fun _ => rfl, fun _ => rfl⟩
        clear hE
        have hz := hb
        clear xBt zBt xBm zBm xBf zBf xBp zBp xBx zBx xBq zBq
        replace Bt := hid (Bt.out.kept hz)
        replace Bm := hid (Bm.out.kept hz)
        replace Bf := hid (Bf.out.kept hz)
        replace Bp := hid (Bp.out.kept hz)
        replace Bx := hid (Bx.out.kept hz)
        replace Bq := hid (Bq.out.kept hz)
        replace HP := hid (MsgE.kept HP.out hz)
        replace HX := hid (FldE.kept HX.out hz)
        replace HQ := hid (MsgE.kept HQ.out hz)
        replace HB := hid (below_trans HB.out hz)
        have xBt := Bt.out.cellF
        have zBt := Bt.out.lt
        have xBm := Bm.out.cellF
        have zBm := Bm.out.lt
        have xBf := Bf.out.cellF
        have zBf := Bf.out.lt
        have xBp := Bp.out.cellF
        have zBp := Bp.out.lt
        have xBx := Bx.out.cellF
        have zBx := Bx.out.lt
        have xBq := Bq.out.cellF
        have zBq := Bq.out.lt
        clear hz hb
        go_wp2_with fail
        refine (equalT (d + 1) _ AnyZ AnyZ [.slice pa wm.fs.length pc, .slice ra wm.us.length rc] [.slice qa wm.fs.length qc, .slice ua3 wm.us.length uc3] wm wm HP.out HQ.out).mono ?_
        rintro e w12 hE
        obtain ⟨rfl, hb⟩ := EqR.val hE true ⟨fun _ => rfl, fun _ => rfl⟩
        clear hE
        have hz := hb
        clear xBt zBt xBm zBm xBf zBf xBp zBp xBx zBx xBq zBq
        replace Bt := hid (Bt.out.kept hz)
        replace Bm := hid (Bm.out.kept hz)
        replace Bf := hid (Bf.out.kept hz)
        replace Bp := hid (Bp.out.kept hz)
        replace Bx := hid (Bx.out.kept hz)
        replace Bq := hid (Bq.out.kept hz)
        replace HP := hid (MsgE.kept HP.out hz)
        replace HX := hid (FldE.kept HX.out hz)
        replace HQ := hid (MsgE.kept HQ.out hz)
        replace HB := hid (below_trans HB.out hz)
        have xBt := Bt.out.cellF
        have zBt := Bt.out.lt
        have xBm := Bm.out.cellF
        have zBm := Bm.out.lt
        have xBf := Bf.out.cellF
        have zBf := Bf.out.lt
        have xBp := Bp.out.cellF
        have zBp := Bp.out.lt
        have xBx := Bx.out.cellF
        have zBx := Bx.out.lt
        have xBq := Bq.out.cellF
        have zBq := Bq.out.lt
        clear hz hb
        go_wp2
        go_ret
        exact ⟨ret_bool (by simp), HB.out⟩
end Go.Proofs.YtnfdlnelfnigdaaGreatDoor
namespace Go.Proofs.YtnfdlnelfnigdaaGreatDoor
open Go.ChangeShapes Go.WideShapes Go.ChangeAt Go.RowKit Go.Deep
set_option maxRecDepth 1000000
section
variable {H : Type}
theorem bulk_one (d : DataW H) : 1 ≤ Rows.uptoBulk d := by
  cases d with
  | lit l => cases l <;> simp [Rows.uptoBulk]
  | nil => simp [Rows.uptoBulk]
  | ptr d => simp [Rows.uptoBulk]
  | slice elems spare => simp [Rows.uptoBulk]
  | agg parts => simp [Rows.uptoBulk]
  | iface t d => simp [Rows.uptoBulk]
  | map entries => simp [Rows.uptoBulk]
  | held h => simp [Rows.uptoBulk]
theorem bulk_length (l : List (DataW H)) : l.length ≤ Rows.uptoBulkAll l := by
  induction l with
  | nil => simp [Rows.uptoBulkAll]
  | cons x r ih => have := bulk_one x; simp only [Rows.uptoBulkAll, List.length_cons]; omega
theorem small_le {l : List (DataW H)} (hk : Rows.uptoSmall H l = true) : Rows.uptoBulkAll l ≤ 1048576 := of_decide_eq_true hk
end
/-- The numbers of a string's bytes. -/
def numsS (s : ByteArray) : List Int := s.data.toList.map fun b => (b.toNat : Int)
theorem numsS_str (s : ByteArray) : strOfNums (numsS s) = s := by
  apply ByteArray.ext
  apply Array.ext'
  simp [strOfNums, numsS, Function.comp_def]
theorem numsS_bd (s : ByteArray) : ∀ x ∈ numsS s, 0 ≤ x ∧ x ≤ 255 := by
  intro x hx
  obtain ⟨b, _, rfl⟩ := List.mem_map.1 hx
  have := b.toNat_lt
  omega
theorem numsS_len (s : ByteArray) : (numsS s).length = s.data.toList.length := by simp [numsS]
end Go.Proofs.YtnfdlnelfnigdaaGreatDoor
