/-
  code: a number out of the bytes that are left.
  code: the program that a few bytes are.
  code: the reader: a number, an operation.
  code: the reader: a step, a row.
  code: the reader: a step.
-/
import Derived.Test.YtpndejibjiojbaaDoorCC7
import Derived.Deep.DeepCutAuto
import Derived.Test.YtpndejibjiojbaaDoorCTA
namespace Go.Proofs.YtpndejibjiojbaaDoor
open Go.RowKit
set_option maxRecDepth 1000000
set_option linter.unusedVariables false
set_option linter.unusedSimpArgs false
set_option maxHeartbeats 2000000
/-- A reader, what it has left, whether it has failed. -/
structure RdS (w : World) (p L : Nat) (a : Option Addr) (len cap : Nat) (xs : List Int) (f : Bool) : Prop where
  blk : Blk w p 65 (rdC (.slice a len cap) f)
  rd : W.Reads w a len cap xs
  ne : ∀ x, a = some x → x.block ≠ p ∧ x.block < L
def RdA (w : World) (p L : Nat) (xs : List Int) (f : Bool) : Prop := ∃ a len cap, RdS w p L a len cap xs f
theorem reads_keepP {w w' : World} {p : Nat} {a : Option Addr} {len cap : Nat} {xs : List Int} (h : W.Reads w a len cap xs) (g : Keep (· ≠ p) w w') (hne : ∀ x, a = some x → x.block ≠ p) : W.Reads w' a len cap xs := by
  refine ⟨h.length, h.le, h.max, h.bd, ?_⟩
  rcases h.cells with h0 | ⟨b, off, rfl, hc⟩
  · exact .inl h0
  · exact .inr ⟨b, off, rfl, fun i hi => cellK g (hc i hi) (hne _ rfl)⟩
theorem RdA.kept {w w' : World} {p L : Nat} {xs : List Int} {f : Bool} (h : RdA w p L xs f) (g : Below w.heap.size w w') : RdA w' p L xs f := by
  obtain ⟨a, len, cap, hB, hr, hn⟩ := h
  exact ⟨a, len, cap, hB.kept g, W.reads_kept hr g, hn⟩
/-- A number, and what is left. -/
def szM (xs : List Int) (f : Bool) : Int × List Int × Bool := if f = true then (0, xs, true) else if (W.gv xs 0).2.2 = 0 then ((W.gv xs 0).1, xs.drop (W.gv xs 0).2.1.toNat, false) else (0, xs, true)
def SzA (w : World) (p L : Nat) (o : Int × List Int × Bool) (e : Ending) (w' : World) : Prop := e = .returned (.int .u64 o.1) ∧ RdA w' p L o.2.1 o.2.2 ∧ Keep (· ≠ p) w w'
theorem szFail {w : World} {p L : Nat} {a : Option Addr} {len cap : Nat} {xs : List Int} {f : Bool} (h : RdS w p L a len cap xs f) : RdA (w.setCell ⟨p, 76, none⟩ (.bool true)) p L xs true ∧ Keep (· ≠ p) w (w.setCell ⟨p, 76, none⟩ (.bool true)) := by
  have g : Keep (· ≠ p) w (w.setCell ⟨p, 76, none⟩ (.bool true)) := Keep.setCell _ _ _ (fun h => h rfl)
  refine ⟨⟨a, len, cap, ?_, reads_keepP h.rd g (fun x hx => (h.ne x hx).1), h.ne⟩, g⟩
  have := h.blk.set 76 (.bool true)
  rw [rdC_set76] at this
  exact this
theorem fromRun (b o n c k : Nat) (h1 : k ≤ n) (h2 : n ≤ c) (h3 : c ≤ 9223372036854775807) : ∃ ta : Option Addr, (ta = some ⟨b, o, none⟩ ∧ c = k ∨ ta = some ⟨b, o + k, none⟩) ∧ ∀ W0, (Instr.sliceAt 25 (.slice (some ⟨b, o, none⟩) n c) (some (.int .i64 (k : Int))) none none).run Tryd.prog W0 = .ok (.slice ta (n - k) (c - k)) W0 := by
  have e : Tryd.prog.underlying 25 = some (.slice 5) := Tryd.underlying25
  have k1 : (k : Int) ≤ (n : Int) := by omega
  have k2 : (k : Int) ≤ (c : Int) := by omega
  have k3 : (0 : Int) ≤ (k : Int) := by omega
  by_cases hc : c = k
  · refine ⟨some ⟨b, o, none⟩, .inl ⟨rfl, hc⟩, fun W0 => ?_⟩
    subst hc
    simp [Instr.sliceAt, Instr.slice, Instr.sliceBounds, Instr.sliceBound, go_sem, e, k1, k2, k3]
    intro h
    omega
  · refine ⟨some ⟨b, o + k, none⟩, .inr rfl, fun W0 => ?_⟩
    have hc2 : ¬ c - k = 0 := by omega
    have hc3 : ¬ c ≤ k := by omega
    have hc4 : k < c := by omega
    simp [Instr.sliceAt, Instr.slice, Instr.sliceBounds, Instr.sliceBound, go_sem, e, k1, k2, k3, hc, hc2, hc3, hc4]
    intro h
    omega
theorem sliceRead {w : World} {a : Option Addr} {len cap : Nat} {xs : List Int} (h : W.Reads w a len cap xs) (k : Nat) (hk : k ≤ len) (h0 : 0 < len) : ∃ ta, (∀ W0, (Instr.sliceAt 25 (.slice a len cap) (some (.int .i64 (k : Int))) none none).run Tryd.prog W0 = .ok (.slice ta (len - k) (cap - k)) W0) ∧ W.Reads w ta (len - k) (cap - k) (xs.drop k) ∧ ∀ x, ta = some x → ∃ y, a = some y ∧ y.block = x.block := by
  have hl := h.length
  have hle := h.le
  rcases h.cells with ⟨h1, _⟩ | ⟨b, off, rfl, hc⟩
  · omega
  · obtain ⟨ta, ht, hrun⟩ := fromRun b off len cap k hk h.le h.max
    refine ⟨ta, hrun, ⟨by simp [hl], by omega, by have := h.max; omega, ?_, ?_⟩, ?_⟩
    · intro i
      have := h.bd (k + i)
      simpa [List.getD_eq_getElem?_getD, List.getElem?_drop] using this
    · rcases ht with ⟨rfl, hck⟩ | rfl
      · exact .inl ⟨by omega, fun h => by cases h⟩
      · refine .inr ⟨b, off + k, rfl, fun i hi => ?_⟩
        have h2 := hc (k + i) (by omega)
        have e1 : off + (k + i) = off + k + i := by omega
        rw [e1] at h2
        rw [List.getD_eq_getElem?_getD, List.getElem?_drop, ← List.getD_eq_getElem?_getD]
        exact h2
    · intro x hx
      rcases ht with ⟨rfl, _⟩ | rfl
      · cases hx; exact ⟨_, rfl, rfl⟩
      · cases hx; exact ⟨_, rfl, rfl⟩
theorem sizeT (w : World) (p L : Nat) (xs : List Int) (f : Bool) (h : RdA w p L xs f) : Calls Tryd.prog 24 #[.pointer (some ⟨p, 0, none⟩)] w (SzA w p L (szM xs f)) := by
  obtain ⟨a, len, cap, hS⟩ := h
  have HS := hid hS
  have c75 : w.cell? ⟨p, 75, none⟩ = some (.slice a len cap) := by rw [hS.blk.cellF, rdC_75]
  have c76 : w.cell? ⟨p, 76, none⟩ = some (.bool f) := by rw [hS.blk.cellF, rdC_76]
  have f75 := hS.blk.frz 75
  have f76 := hS.blk.frz 76
  have hp := hS.blk.lt
  have HG := hid (W.getvW a len cap 0 xs w hS.rd (Nat.zero_le _))
  have HRD := hid hS.rd
  clear hS
  cases f with
  | true =>
    have HA : Hid (∀ e w', e = .returned (.int .u64 0) → w' = w.setCell ⟨p, 76, none⟩ (.bool true) → SzA w p L (szM xs true) e w') := hid (fun e w' he hw => by
      subst he hw
      exact ⟨by unfold szM; rfl, by unfold szM; exact (szFail HS.out).1, (szFail HS.out).2⟩)
    go_enter Tryd.func24, Tryd.ntmps24
    go_wp2_with fail
    refine HG.out.mono ?_
    rintro e w1 ⟨rfl, rfl⟩
    generalize W.gv xs 0 = gg at *
    go_wp2
    go_ret
    exact HA.out _ _ rfl rfl
  | false =>
    by_cases he : (W.gv xs 0).2.2 = 0
    · have hn := W.gv_next (Nat.zero_le _) he
      have hb := W.gv_bd (W.bd_mem HRD.out.bd) 0
      obtain ⟨k, hk⟩ : ∃ k : Nat, (W.gv xs 0).2.1 = (k : Int) := ⟨(W.gv xs 0).2.1.toNat, by omega⟩
      have hkl : k ≤ len := by rw [hk, HRD.out.length] at hn; omega
      have hlc := HRD.out.le
      have hmx := HRD.out.max
      obtain ⟨ta, hrun, hrd2, hblk⟩ := sliceRead HRD.out k hkl (by omega)
      have HRUN := hid hrun
      have HA : Hid (∀ e w', e = .returned (.int .u64 (W.gv xs 0).1) → w' = w.setCell ⟨p, 75, none⟩ (.slice ta (len - k) (cap - k)) → SzA w p L (szM xs false) e w') := hid (fun e w' he' hw => by
        subst he' hw
        have hz : szM xs false = ((W.gv xs 0).1, xs.drop k, false) := by
          unfold szM
          rw [if_neg (by decide), if_pos he, hk]
          rfl
        rw [hz]
        have g : Keep (· ≠ p) w (w.setCell ⟨p, 75, none⟩ (.slice ta (len - k) (cap - k))) := Keep.setCell _ _ _ (fun h => h rfl)
        have hne : ∀ x, ta = some x → x.block ≠ p ∧ x.block < L := fun x hx => by
          obtain ⟨y, h1, h2⟩ := hblk x hx
          rw [← h2]
          exact HS.out.ne y h1
        refine ⟨rfl, ⟨ta, len - k, cap - k, ?_, reads_keepP hrd2 g (fun x hx => (hne x hx).1), hne⟩, g⟩
        have := HS.out.blk.set 75 (.slice ta (len - k) (cap - k))
        rw [rdC_set75] at this
        exact this)
      clear hn hb hkl hlc hmx hrun hrd2 hblk
      generalize hgg : W.gv xs 0 = gg at *
      obtain ⟨g1, g2, g3⟩ := gg
      dsimp only at hk he
      subst hk he
      go_enter Tryd.func24, Tryd.ntmps24
      go_wp2_with fail
      refine HG.out.mono ?_
      rintro e w1 ⟨rfl, rfl⟩
      have hr0 := HRUN.out
      go_wp2
      go_ret
      exact HA.out _ _ rfl rfl
    · have HA : Hid (∀ e w', e = .returned (.int .u64 0) → w' = w.setCell ⟨p, 76, none⟩ (.bool true) → SzA w p L (szM xs false) e w') := hid (fun e w' he' hw => by
        subst he' hw
        have hz : szM xs false = (0, xs, true) := by
          unfold szM
          rw [if_neg (by decide), if_neg he]
        rw [hz]
        exact ⟨rfl, (szFail HS.out).1, (szFail HS.out).2⟩)
      have hb2 : ((W.gv xs 0).2.2 != 0) = true := by simpa using he
      generalize W.gv xs 0 = gg at *
      obtain ⟨g1, g2, g3⟩ := gg
      dsimp only at hb2 HG
      clear he
      go_enter Tryd.func24, Tryd.ntmps24
      go_wp2_with fail
      refine HG.out.mono ?_
      rintro e w1 ⟨rfl, rfl⟩
      go_wp2
      go_ret
      exact HA.out _ _ rfl rfl
set_option maxHeartbeats 4000000
theorem rdStore (v : Value) (f : Bool) (hv : v.oneCell' = true) (w : World) : (storeCells ⟨w.heap.size, 0, none⟩ (rdC v f).toList 0).run Tryd.prog (w.alloc (.cells Tryd.zeroCells65 65)) = .ok () (w.alloc (.cells (rdC v f) 65)) := by
  refine run_storeCells_new (P := Tryd.prog) w 65 Tryd.zeroCells65 (rdC v f) (by rw [rdC_size]; kernel_rfl) (by rw [rdC_size]; kernel_rfl) ?_
  unfold rdC
  rw [List.all_toArray, List.all_append]
  rw [show opAll.all (·.oneCell') = true by kernel_rfl]
  simp [hv]
  rfl
theorem wpList_ran {P : Program} {w : World} {ops : Array Oper} {rest : List Oper} {o : Oper} {a : Act} {Q : Exit → Act → World → Prop} (hgd : o.guard = none) (v : Value) (hr : ∀ K : Act → World → Prop, K (a.put o.dst v) w → Oper.wp P o a w K Q) (h : wpList P ops Q rest (a.put o.dst v) w) : wpList P ops Q (o :: rest) a w := wpList_plain hgd fun K hK => hr K (hK _ _ h)
theorem rdBuild {A : Array Value} (hA : A = opAll.toArray) (a : Option Addr) (n c : Nat) (f : Bool) (W0 : World) : (Instr.build 65 #[(0, .agg A), (1, .slice a n c), (2, .bool f)]).run Tryd.prog W0 = .ok (.agg (rdC (.slice a n c) f)) W0 := by
  rw [hA]
  kernel_rfl
theorem allOpsV (w : World) : Calls Tryd.prog 19 #[] w fun e w' => ∃ av : Value, e = .returned av ∧ Hid (av = .agg opAll.toArray) ∧ Below w.heap.size w w' := (allOpsT w).mono fun e w' ⟨h, hb⟩ => ⟨_, h, hid rfl, hb⟩
def nbM (xs : List Int) (f : Bool) : Int × List Int × Bool := (wrap64 (szM xs f).1, (szM xs f).2)
/-- What a reader's method leaves. -/
def RdB (w : World) (p L : Nat) (o : List Int × Bool) (w' : World) : Prop := RdA w' p L o.1 o.2 ∧ Keep (· ≠ p) w w'
theorem numberT (w : World) (p L : Nat) (xs : List Int) (f : Bool) (h : RdA w p L xs f) : Calls Tryd.prog 59 #[.pointer (some ⟨p, 0, none⟩)] w fun e w' => e = .returned (.int .i64 (nbM xs f).1) ∧ RdB w p L (nbM xs f).2 w' := by
  have HS := hid (sizeT w p L xs f h)
  clear h
  unfold nbM
  generalize szM xs f = o at *
  go_enter Tryd.func59, Tryd.ntmps59
  go_wp2_with fail
  refine HS.out.mono ?_
  rintro e w1 ⟨rfl, hr, hk⟩
  have HR := hid hr
  have HK := hid hk
  clear hr hk
  go_wp2
  go_ret
  exact ⟨rfl, HR.out, HK.out⟩
/-- An operation's row, if there is one. -/
def opR (n : Int) : Value := if 1 ≤ n ∧ n ≤ 25 then .agg (opV (n - 1).toNat).toArray else .agg #[.int .i64 0, .string ⟨#[]⟩, .int .i64 0]
def opM (xs : List Int) (f : Bool) : Int × List Int × Bool := match f, xs with
  | true, xs => (0, xs, true)
  | false, [] => (0, [], true)
  | false, c :: r => if 1 ≤ c ∧ c ≤ 25 then (c, r, false) else (0, r, true)
theorem operationFail (w : World) (p L : Nat) (xs : List Int) (f : Bool) (h : RdA w p L xs f) (hf : f = true ∨ xs = []) : Calls Tryd.prog 58 #[.pointer (some ⟨p, 0, none⟩)] w fun e w' => e = .returned (.agg #[.int .i64 0, .string ⟨#[]⟩, .int .i64 0]) ∧ RdB w p L (xs, true) w' := by
  obtain ⟨a, len, cap, hS⟩ := h
  have HS := hid hS
  have c75 : w.cell? ⟨p, 75, none⟩ = some (.slice a len cap) := by rw [hS.blk.cellF, rdC_75]
  have c76 : w.cell? ⟨p, 76, none⟩ = some (.bool f) := by rw [hS.blk.cellF, rdC_76]
  have f76 := hS.blk.frz 76
  have hp := hS.blk.lt
  have HF := hid (szFail hS)
  have hl : xs = [] → len = 0 := fun e => by have := hS.rd.length; rw [e] at this; exact this.symm
  clear hS
  have HQ : Hid (RdB w p L (xs, true) ((w.setCell ⟨p, 76, none⟩ (.bool true)).alloc (.cells #[.int .i64 0, .string ⟨#[]⟩, .int .i64 0] 56))) := hid ⟨HF.out.1.kept (below_alloc _), HF.out.2.trans (Keep.ofBelow (below_alloc _))⟩
  cases f with
  | true =>
    clear hl hf
    go_enter Tryd.func58, Tryd.ntmps58
    go_wp2
    exact bodyPost_ret (v := .agg #[.int .i64 0, .string ⟨#[]⟩, .int .i64 0]) (by simp [results, Tryd.results58, go_sem]) rfl ⟨rfl, HQ.out⟩
  | false =>
    have h0 : len = 0 := hl (by rcases hf with h | h; cases h; exact h)
    subst h0
    clear hl hf
    go_enter Tryd.func58, Tryd.ntmps58
    go_wp2
    exact bodyPost_ret (v := .agg #[.int .i64 0, .string ⟨#[]⟩, .int .i64 0]) (by simp [results, Tryd.results58, go_sem]) rfl ⟨rfl, HQ.out⟩
theorem RdS.keepF {F : Nat → Prop} {w w' : World} {p L : Nat} {a : Option Addr} {len cap : Nat} {xs : List Int} {f : Bool} (h : RdS w p L a len cap xs f) (g : Keep F w w') (hp : F p) (ha : ∀ x, a = some x → F x.block) : RdS w' p L a len cap xs f := by
  refine ⟨h.blk.keep g hp, ⟨h.rd.length, h.rd.le, h.rd.max, h.rd.bd, ?_⟩, h.ne⟩
  rcases h.rd.cells with h0 | ⟨b, off, rfl, hc⟩
  · exact .inl h0
  · exact .inr ⟨b, off, rfl, fun i hi => cellK g (hc i hi) (ha _ rfl)⟩
theorem numV_sh (c : Int) : ∃ (m : Int) (s : ByteArray) (k : Int), numV c = .tuple #[.agg #[.int .i64 m, .string s, .int .i64 k], .bool (decide (1 ≤ c ∧ c ≤ 25))] ∧ opR c = .agg #[.int .i64 m, .string s, .int .i64 k] := by
  unfold numV opR
  by_cases h : 1 ≤ c ∧ c ≤ 25
  · rw [if_pos h, if_pos h, decide_eq_true h]
    exact ⟨_, _, _, rfl, rfl⟩
  · rw [if_neg h, if_neg h, decide_eq_false h]
    exact ⟨_, _, _, rfl, rfl⟩
theorem operationRun (w : World) (p L : Nat) (c : Int) (r : List Int) (h : RdA w p L (c :: r) false) : Calls Tryd.prog 58 #[.pointer (some ⟨p, 0, none⟩)] w fun e w' => e = .returned (opR c) ∧ RdB w p L (r, !(decide (1 ≤ c ∧ c ≤ 25))) w' := by
  obtain ⟨a, len, cap, hS⟩ := h
  have hlen : len = r.length + 1 := by rw [← hS.rd.length]; simp
  have h0l : 0 < len := by omega
  have HLE := hid hlen
  clear hlen
  obtain ⟨b, off, rfl, hc⟩ : ∃ b off, a = some ⟨b, off, none⟩ ∧ ∀ i, i < len → w.cell? ⟨b, off + i, none⟩ = some (.int .u8 ((c :: r).getD i 0)) := by
    rcases hS.rd.cells with ⟨h1, _⟩ | h
    · omega
    · exact h
  have hbp : b ≠ p := (hS.ne _ rfl).1
  obtain ⟨ta, hrun, hrd2, hblk⟩ := sliceRead hS.rd 1 h0l h0l
  have HS := hid hS
  have c75 : w.cell? ⟨p, 75, none⟩ = some (.slice (some ⟨b, off, none⟩) len cap) := by rw [hS.blk.cellF, rdC_75]
  have c76 : w.cell? ⟨p, 76, none⟩ = some (.bool false) := by rw [hS.blk.cellF, rdC_76]
  have f75 := hS.blk.frz 75
  have f76 := hS.blk.frz 76
  have hp := hS.blk.lt
  have cb := hc 0 (by omega)
  simp only [Nat.add_zero, List.getD_cons_zero] at cb
  have hbl := World.block_lt_of_cell? _ _ cb
  have hcb := hS.rd.bd 0
  simp only [List.getD_cons_zero] at hcb
  have hmx := hS.rd.max
  have hle := hS.rd.le
  have l63 : (len : Int) ≤ 9223372036854775807 := by omega
  have l0 : ((len : Int) == 0) = false := by simp; omega
  have l0n : (len == 0) = false := by simp; omega
  have l0m : ¬ len = 0 := by omega
  have HNU := hid fun W0 (hW : Below w.heap.size w W0) => numberedC W0 p c (by have := hW.size; omega) (fun i hi => by
    have h1 := (hS.blk.kept hW).cellF i
    rw [h1, rdC_lo _ _ i hi])
  obtain ⟨m, sb, k, hnv, hor⟩ := numV_sh c
  rw [hnv] at HNU
  rw [hor]
  have hbb : 0 ≤ c ∧ c ≤ 255 := hcb
  have hw1 : IntKind.i64.wrap c = c := by simp [IntKind.wrap, IntKind.bits, IntKind.signed]; omega
  have hw2 : wrap64 c = c := by unfold wrap64; omega
  generalize decide (1 ≤ c ∧ c ≤ 25) = ok at *
  have HHR := hid hrun
  have HRD := hid hrd2
  have HBK := hid hblk
  clear hmx hle hS hc hnv hor hrd2 hblk hrun hcb
  have BR : Hid (Blk (w.alloc (.cells #[.int .i64 0, .string ⟨#[]⟩, .int .i64 0] 56)) w.heap.size 56 #[.int .i64 0, .string ⟨#[]⟩, .int .i64 0]) := hid (Blk.new _ _ _)
  have HBV : Hid (Below w.heap.size w (w.alloc (.cells #[.int .i64 0, .string ⟨#[]⟩, .int .i64 0] 56))) := hid (below_alloc _)
  go_enter Tryd.func58, Tryd.ntmps58
  go_wp2_with fail
  replace c75 := cell_below c75 HBV.out
  replace c76 := cell_below c76 HBV.out
  replace cb := cell_below cb HBV.out
  generalize w.alloc (.cells #[.int .i64 0, .string ⟨#[]⟩, .int .i64 0] 56) = V at *
  have hpV : p < V.heap.size := by have := HBV.out.size; omega
  have hbV : b < V.heap.size := by have := HBV.out.size; omega
  have zr : w.heap.size < V.heap.size := BR.out.lt
  go_cut [3, 4] (fun s3 s4 wc => ∃ q : Nat, s3 = .pointer (some ⟨q, 0, none⟩) ∧ s4 = .bool ok ∧ Hid (V.heap.size ≤ q) ∧ Hid (Blk wc q 56 #[.int .i64 m, .string sb, .int .i64 k]) ∧ Hid (Below V.heap.size V wc))
  case first =>
    have HSK : Hid (∀ W0, Below V.heap.size V W0 → (fun W0 => W0.cell? ⟨p, 75, none⟩ = some (.slice (some ⟨b, off, none⟩) len cap) ∧ W0.cell? ⟨b, off, none⟩ = some (.int .u8 c)) W0) := hid (fun W0 hW => ⟨cell_below c75 hW, cell_below cb hW⟩)
    refine wp_region_held_drew (S := (fun W0 => W0.cell? ⟨p, 75, none⟩ = some (.slice (some ⟨b, off, none⟩) len cap) ∧ W0.cell? ⟨b, off, none⟩ = some (.int .u8 c))) (by kernel_rfl) ?_ (fun hHeld => ?_)
    · exact HSK.out _ (below_drew1 _)
    refine wpAnyH_take (i := 0) (v := ?_) rfl (by kernel_rfl) (by kernel_rfl) (by kernel_rfl) (fun _ _ _ h => h) (Or.inl ⟨by rfl, ?_⟩) (by assumption) ?_
    rotate_left
    · (intro w hSw; (try dsimp only at hSw); go_simp; (try with_reducible rfl))
    try simp only [Act.put, List.getElem_toArray, List.getElem_cons_succ, List.getElem_cons_zero, List.setIfInBounds_toArray, List.set_cons_zero, List.set_cons_succ]
    refine wpAnyH_take (i := 1) (v := ?_) rfl (by kernel_rfl) (by kernel_rfl) (by kernel_rfl) (fun _ _ _ h => h) (Or.inl ⟨by rfl, ?_⟩) (by assumption) ?_
    rotate_left
    · (intro w hSw; (try dsimp only at hSw); go_simp; (try with_reducible rfl))
    try simp only [Act.put, List.getElem_toArray, List.getElem_cons_succ, List.getElem_cons_zero, List.setIfInBounds_toArray, List.set_cons_zero, List.set_cons_succ]
    refine wpAnyH_take (i := 2) (v := ?_) rfl (by kernel_rfl) (by kernel_rfl) (by kernel_rfl) (fun _ _ _ h => h) (Or.inl ⟨by rfl, ?_⟩) (by assumption) ?_
    rotate_left
    · (intro w hSw; (try dsimp only at hSw); go_simp; (try with_reducible rfl))
    try simp only [Act.put, List.getElem_toArray, List.getElem_cons_succ, List.getElem_cons_zero, List.setIfInBounds_toArray, List.set_cons_zero, List.set_cons_succ]
    refine wpAnyH_take (i := 3) (v := ?_) rfl (by kernel_rfl) (by kernel_rfl) (by kernel_rfl) (fun _ _ _ h => h) (Or.inl ⟨by rfl, ?_⟩) (by assumption) ?_
    rotate_left
    · (intro w hSw; (try dsimp only at hSw); go_simp; (try with_reducible rfl))
    try simp only [Act.put, List.getElem_toArray, List.getElem_cons_succ, List.getElem_cons_zero, List.setIfInBounds_toArray, List.set_cons_zero, List.set_cons_succ]
    refine wpAnyH_take (i := 4) (v := ?_) rfl (by kernel_rfl) (by kernel_rfl) (by kernel_rfl) (fun _ _ _ h => h) (Or.inl ⟨by rfl, ?_⟩) (by assumption) ?_
    rotate_left
    · (intro w hSw; (try dsimp only at hSw); go_simp; (try with_reducible rfl))
    try simp only [Act.put, List.getElem_toArray, List.getElem_cons_succ, List.getElem_cons_zero, List.setIfInBounds_toArray, List.set_cons_zero, List.set_cons_succ]
    refine wpAnyH_take (i := 5) (v := ?_) rfl (by kernel_rfl) (by kernel_rfl) (by kernel_rfl) (fun _ _ _ h => h) (Or.inl ⟨by rfl, ?_⟩) (by assumption) ?_
    rotate_left
    · (intro w hSw; (try dsimp only at hSw); go_simp; (try with_reducible rfl))
    try simp only [Act.put, List.getElem_toArray, List.getElem_cons_succ, List.getElem_cons_zero, List.setIfInBounds_toArray, List.set_cons_zero, List.set_cons_succ]
    refine wpAnyH_take (i := 6) (v := ?_) rfl (by kernel_rfl) (by kernel_rfl) (by kernel_rfl) (fun _ _ _ h => h) (Or.inl ⟨by rfl, ?_⟩) (by assumption) ?_
    rotate_left
    · (intro w hSw; (try dsimp only at hSw); go_simp; (try with_reducible rfl))
    try simp only [Act.put, List.getElem_toArray, List.getElem_cons_succ, List.getElem_cons_zero, List.setIfInBounds_toArray, List.set_cons_zero, List.set_cons_succ]
    refine wpAnyH_take (i := 7) (v := ?_) rfl (by kernel_rfl) (by kernel_rfl) (by kernel_rfl) (fun _ _ _ h => h) (Or.inl ⟨by rfl, ?_⟩) (by assumption) ?_
    rotate_left
    · (intro w hSw; (try dsimp only at hSw); go_simp; (try with_reducible rfl))
    try simp only [Act.put, List.getElem_toArray, List.getElem_cons_succ, List.getElem_cons_zero, List.setIfInBounds_toArray, List.set_cons_zero, List.set_cons_succ]
    refine wpAnyH_take (i := 8) (v := ?_) rfl (by kernel_rfl) (by kernel_rfl) (by kernel_rfl) (fun _ _ _ h => h) (Or.inl ⟨by rfl, ?_⟩) (by assumption) ?_
    rotate_left
    · (intro w hSw; (try dsimp only at hSw); go_simp; (try with_reducible rfl))
    try simp only [Act.put, List.getElem_toArray, List.getElem_cons_succ, List.getElem_cons_zero, List.setIfInBounds_toArray, List.set_cons_zero, List.set_cons_succ]
    refine wpAnyH_take (i := 9) (v := ?_) rfl (by kernel_rfl) (by kernel_rfl) (by kernel_rfl) (fun _ _ _ h => h) (Or.inl ⟨by rfl, ?_⟩) (by assumption) ?_
    rotate_left
    · (intro w hSw; (try dsimp only at hSw); go_simp; (try with_reducible rfl))
    try simp only [Act.put, List.getElem_toArray, List.getElem_cons_succ, List.getElem_cons_zero, List.setIfInBounds_toArray, List.set_cons_zero, List.set_cons_succ]
    refine wpAnyH_ready (rs := [10, 14]) (by kernel_rfl) (by simp) ?_
    refine AllReadyH.cons rfl (fun K hK => ?_) ?_
    · go_simp
      refine (HNU.out _ (bl_then HBV.out (below_drew1 _))).mono ?_
      rintro e w1 ⟨rfl, hb1⟩
      dsimp only
      have hbV1 : Below V.heap.size V w1 := bl_then (below_drew1 _) hb1
      try simp only [Act.put, List.getElem_toArray, List.getElem_cons_succ, List.getElem_cons_zero, List.setIfInBounds_toArray, List.set_cons_zero, List.set_cons_succ]
      refine hK.out _ _ ?_ (fun hHeld => ?_)
      · exact HSK.out _ hbV1
      clear hK K
      try simp only [Act.put, List.getElem_toArray, List.getElem_cons_succ, List.getElem_cons_zero, List.setIfInBounds_toArray, List.set_cons_zero, List.set_cons_succ]
      refine wpAnyH_take (i := 11) (v := ?_) rfl (by kernel_rfl) (by kernel_rfl) (by kernel_rfl) (fun _ _ _ h => h) (Or.inl ⟨by rfl, ?_⟩) (by assumption) ?_
      rotate_left
      · (intro w hSw; (try dsimp only at hSw); go_simp; (try with_reducible rfl))
      try simp only [Act.put, List.getElem_toArray, List.getElem_cons_succ, List.getElem_cons_zero, List.setIfInBounds_toArray, List.set_cons_zero, List.set_cons_succ]
      refine wpAnyH_take (i := 12) (v := ?_) rfl (by kernel_rfl) (by kernel_rfl) (by kernel_rfl) (fun _ _ _ h => h) (Or.inl ⟨by rfl, ?_⟩) (by assumption) ?_
      rotate_left
      · (intro w hSw; (try dsimp only at hSw); go_simp; (try with_reducible rfl))
      try simp only [Act.put, List.getElem_toArray, List.getElem_cons_succ, List.getElem_cons_zero, List.setIfInBounds_toArray, List.set_cons_zero, List.set_cons_succ]
      refine wpAnyH_take (i := 13) (v := ?_) rfl (by kernel_rfl) (by kernel_rfl) (by kernel_rfl) (fun _ _ _ h => h) (Or.inl ⟨by rfl, ?_⟩) (by assumption) ?_
      rotate_left
      · (intro w hSw; (try dsimp only at hSw); go_simp; (try with_reducible rfl))
      try simp only [Act.put, List.getElem_toArray, List.getElem_cons_succ, List.getElem_cons_zero, List.setIfInBounds_toArray, List.set_cons_zero, List.set_cons_succ]
      refine wpAnyH_ready (rs := [14]) (by kernel_rfl) (by simp) ?_
      refine AllReadyH.cons rfl (fun K hK => ?_) ?_
      · go_simp
        refine hK.out _ _ ?_ (fun hHeld => ?_)
        · exact HSK.out _ (bl_alloc hbV1 _)
        clear hK K
        try simp only [Act.put, List.getElem_toArray, List.getElem_cons_succ, List.getElem_cons_zero, List.setIfInBounds_toArray, List.set_cons_zero, List.set_cons_succ]
        refine wpAnyH_ready (rs := [15]) (by kernel_rfl) (by simp) ?_
        refine AllReadyH.cons rfl (fun K hK => ?_) ?_
        · go_simp
          refine hK.out _ _ ?_ (fun hHeld => ?_)
          · exact HSK.out _ (bl_alloc hbV1 _)
          clear hK K
          try simp only [Act.put, List.getElem_toArray, List.getElem_cons_succ, List.getElem_cons_zero, List.setIfInBounds_toArray, List.set_cons_zero, List.set_cons_succ]
          refine wpAnyH_take (i := 16) (v := ?_) rfl (by kernel_rfl) (by kernel_rfl) (by kernel_rfl) (fun _ _ _ h => h) (Or.inl ⟨by rfl, ?_⟩) (by assumption) ?_
          rotate_left
          · (intro w hSw; (try dsimp only at hSw); go_simp; (try with_reducible rfl))
          try simp only [Act.put, List.getElem_toArray, List.getElem_cons_succ, List.getElem_cons_zero, List.setIfInBounds_toArray, List.set_cons_zero, List.set_cons_succ]
          refine wpAnyH_done (by kernel_rfl) ?_ _
          go_wp2_with fail
          go_meet
          exact ⟨_, rfl, rfl, hid hbV1.size, hid (Blk.newAt rfl), hid (bl_alloc hbV1 _)⟩
        exact AllReadyH.nil
      exact AllReadyH.nil
    refine AllReadyH.cons rfl (fun K hK => ?_) ?_
    · go_simp
      refine hK.out _ _ ?_ (fun hHeld => ?_)
      · exact HSK.out _ (bl_drew (below_alloc _))
      clear hK K
      try simp only [Act.put, List.getElem_toArray, List.getElem_cons_succ, List.getElem_cons_zero, List.setIfInBounds_toArray, List.set_cons_zero, List.set_cons_succ]
      refine wpAnyH_ready (rs := [10]) (by kernel_rfl) (by simp) ?_
      refine AllReadyH.cons rfl (fun K hK => ?_) ?_
      · go_simp
        refine (HNU.out _ (bl_then HBV.out (bl_drew (below_alloc _)))).mono ?_
        rintro e w1 ⟨rfl, hb1⟩
        dsimp only
        have hbV1 : Below V.heap.size V w1 := bl_then (bl_drew (below_alloc _)) hb1
        try simp only [Act.put, List.getElem_toArray, List.getElem_cons_succ, List.getElem_cons_zero, List.setIfInBounds_toArray, List.set_cons_zero, List.set_cons_succ]
        refine hK.out _ _ ?_ (fun hHeld => ?_)
        · exact HSK.out _ hbV1
        clear hK K
        try simp only [Act.put, List.getElem_toArray, List.getElem_cons_succ, List.getElem_cons_zero, List.setIfInBounds_toArray, List.set_cons_zero, List.set_cons_succ]
        have bq : Blk w1 V.heap.size 56 #[.int .i64 0, .string ⟨#[]⟩, .int .i64 0] := ((Blk.new V _ _).kept (below_drew1 _)).kept hb1
        have xq := bq.cellF
        have yq := bq.frz
        have zq := bq.lt
        refine wpAnyH_take (i := 11) (v := ?_) rfl (by kernel_rfl) (by kernel_rfl) (by kernel_rfl) (fun _ _ _ h => h) (Or.inl ⟨by rfl, ?_⟩) (by assumption) ?_
        rotate_left
        · (intro w hSw; (try dsimp only at hSw); go_simp; (try with_reducible rfl))
        try simp only [Act.put, List.getElem_toArray, List.getElem_cons_succ, List.getElem_cons_zero, List.setIfInBounds_toArray, List.set_cons_zero, List.set_cons_succ]
        refine wpAnyH_take (i := 12) (v := ?_) rfl (by kernel_rfl) (by kernel_rfl) (by kernel_rfl) (fun _ _ _ h => h) (Or.inl ⟨by rfl, ?_⟩) (by assumption) ?_
        rotate_left
        · (intro w hSw; (try dsimp only at hSw); go_simp; (try with_reducible rfl))
        try simp only [Act.put, List.getElem_toArray, List.getElem_cons_succ, List.getElem_cons_zero, List.setIfInBounds_toArray, List.set_cons_zero, List.set_cons_succ]
        refine wpAnyH_take (i := 13) (v := ?_) rfl (by kernel_rfl) (by kernel_rfl) (by kernel_rfl) (fun _ _ _ h => h) (Or.inl ⟨by rfl, ?_⟩) (by assumption) ?_
        rotate_left
        · (intro w hSw; (try dsimp only at hSw); go_simp; (try with_reducible rfl))
        try simp only [Act.put, List.getElem_toArray, List.getElem_cons_succ, List.getElem_cons_zero, List.setIfInBounds_toArray, List.set_cons_zero, List.set_cons_succ]
        refine wpAnyH_ready (rs := [15]) (by kernel_rfl) (by simp) ?_
        refine AllReadyH.cons rfl (fun K hK => ?_) ?_
        · go_simp
          refine hK.out _ _ ?_ (fun hHeld => ?_)
          · exact HSK.out _ (by exact blBy)
          clear hK K
          try simp only [Act.put, List.getElem_toArray, List.getElem_cons_succ, List.getElem_cons_zero, List.setIfInBounds_toArray, List.set_cons_zero, List.set_cons_succ]
          refine wpAnyH_take (i := 16) (v := ?_) rfl (by kernel_rfl) (by kernel_rfl) (by kernel_rfl) (fun _ _ _ h => h) (Or.inl ⟨by rfl, ?_⟩) (by assumption) ?_
          rotate_left
          · (intro w hSw; (try dsimp only at hSw); go_simp; (try with_reducible rfl))
          try simp only [Act.put, List.getElem_toArray, List.getElem_cons_succ, List.getElem_cons_zero, List.setIfInBounds_toArray, List.set_cons_zero, List.set_cons_succ]
          refine wpAnyH_done (by kernel_rfl) ?_ _
          go_wp2_with fail
          go_meet
          exact ⟨_, rfl, rfl, hid (Nat.le_refl _), hid (Blk.is (((bq.set 0 _).set 1 _).set 2 _) (by simp)), hid (by exact blBy)⟩
        exact AllReadyH.nil
      exact AllReadyH.nil
    exact AllReadyH.nil
  case rest =>
    obtain ⟨q, rfl, rfl, HQV, BQ, HBW⟩ := hcut
    replace c75 := cell_below c75 HBW.out
    replace c76 := cell_below c76 HBW.out
    have hrun : ∀ W0, (Instr.sliceAt 25 (.slice (some ⟨b, off, none⟩) len cap) (some (.int .i64 1)) none none).run Tryd.prog W0 = .ok (.slice ta (len - 1) (cap - 1)) W0 := HHR.out
    have xq := BQ.out.cellF
    have zq := BQ.out.lt
    have hpw : p < wc.heap.size := by have := HBW.out.size; omega
    have BR2 := hid (BR.out.kept HBW.out)
    have xr := BR2.out.cellF
    have yr := BR2.out.frz
    have zr2 := BR2.out.lt
    have hpr : p ≠ w.heap.size := by omega
    have hqp : q ≠ p := by have := HQV.out; omega
    have hqr : q ≠ w.heap.size := by have := HQV.out; omega
    have f75w : wc.frozen? ⟨p, 75, none⟩ = false := ((HS.out.blk.kept HBV.out).kept HBW.out).frz 75
    have f76w : wc.frozen? ⟨p, 76, none⟩ = false := ((HS.out.blk.kept HBV.out).kept HBW.out).frz 76
    have HSw : Hid (RdS wc p L (some ⟨b, off, none⟩) len cap (c :: r) false) := hid ⟨(HS.out.blk.kept HBV.out).kept HBW.out, W.reads_kept (W.reads_kept HS.out.rd HBV.out) HBW.out, HS.out.ne⟩
    have HR2 : Hid (RdS ((wc.setCell ⟨p, 75, none⟩ (.slice ta (len - 1) (cap - 1))).setCell ⟨p, 76, none⟩ (.bool !ok)) p L ta (len - 1) (cap - 1) r (!ok)) := hid (by
      have hne : ∀ x, ta = some x → x.block ≠ p ∧ x.block < L := fun x hx => by
        obtain ⟨y, h1, h2⟩ := HBK.out x hx
        rw [← h2]
        exact HS.out.ne y h1
      have g : Keep (· ≠ p) wc ((wc.setCell ⟨p, 75, none⟩ (.slice ta (len - 1) (cap - 1))).setCell ⟨p, 76, none⟩ (.bool !ok)) := (Keep.setCell _ _ _ (fun h => h rfl)).trans (Keep.setCell _ _ _ (fun h => h rfl))
      refine ⟨?_, reads_keepP (W.reads_kept (W.reads_kept HRD.out HBV.out) HBW.out) g (fun x hx => (hne x hx).1), hne⟩
      have := (HSw.out.blk.set 75 (.slice ta (len - 1) (cap - 1))).set 76 (.bool !ok)
      rw [rdC_set75, rdC_set76] at this
      exact this)
    have HTB : Hid (∀ x, ta = some x → x.block ≠ w.heap.size) := hid (fun x hx => by
      obtain ⟨y, h1, h2⟩ := HBK.out x hx
      cases h1
      rw [← h2]
      show b ≠ _
      omega)
    go_wp2
    refine bodyPost_ret (v := .agg #[.int .i64 m, .string sb, .int .i64 k]) (by simp [results, Tryd.results58, go_sem, xr, zr2, hpr]) rfl ⟨rfl, ⟨ta, len - 1, cap - 1, HR2.out.keepF (F := (· ≠ w.heap.size)) (((Keep.setCell _ _ _ (fun h => h rfl)).trans (Keep.setCell _ _ _ (fun h => h rfl))).trans (Keep.setCell _ _ _ (fun h => h rfl))) hpr HTB.out⟩, ?_⟩
    have g1 : Keep (· ≠ p) w wc := Keep.ofBelow (bl_then HBV.out HBW.out)
    have g2 : Keep (fun b => b ≠ p ∧ b ≠ w.heap.size) wc (((((wc.setCell ⟨p, 75, none⟩ (.slice ta (len - 1) (cap - 1))).setCell ⟨p, 76, none⟩ (.bool !ok)).setCell ⟨w.heap.size, 0, none⟩ (.int .i64 m)).setCell ⟨w.heap.size, 1, none⟩ (.string sb)).setCell ⟨w.heap.size, 2, none⟩ (.int .i64 k)) := ((((Keep.setCell _ _ _ (fun h => h.1 rfl)).trans (Keep.setCell _ _ _ (fun h => h.1 rfl))).trans (Keep.setCell _ _ _ (fun h => h.2 rfl))).trans (Keep.setCell _ _ _ (fun h => h.2 rfl))).trans (Keep.setCell _ _ _ (fun h => h.2 rfl))
    exact ⟨g2.os.trans g1.os, g2.tape.trans g1.tape, g2.output.trans g1.output, Nat.le_trans g1.size g2.size, fun k hk hf => (g2.block k (Nat.lt_of_lt_of_le hk g1.size) ⟨hf, by omega⟩).trans (g1.block k hk hf)⟩
theorem operationT (w : World) (p L : Nat) (xs : List Int) (f : Bool) (h : RdA w p L xs f) : Calls Tryd.prog 58 #[.pointer (some ⟨p, 0, none⟩)] w fun e w' => e = .returned (opR (opM xs f).1) ∧ RdB w p L (opM xs f).2 w' := by
  cases f with
  | true => exact (operationFail w p L xs true h (.inl rfl)).mono fun e w' ⟨h1, h2⟩ => ⟨h1, h2⟩
  | false =>
    cases xs with
    | nil => exact (operationFail w p L [] false h (.inr rfl)).mono fun e w' ⟨h1, h2⟩ => ⟨h1, h2⟩
    | cons c r =>
      refine (operationRun w p L c r h).mono fun e w' ⟨h1, h2⟩ => ?_
      by_cases hc : 1 ≤ c ∧ c ≤ 25
      · have e1 : opM (c :: r) false = (c, r, false) := by unfold opM; dsimp only; rw [if_pos hc]
        rw [e1]
        rw [decide_eq_true hc] at h2
        exact ⟨h1, h2⟩
      · have e1 : opM (c :: r) false = (0, r, true) := by unfold opM; dsimp only; rw [if_neg hc]
        rw [e1]
        rw [decide_eq_false hc] at h2
        refine ⟨?_, h2⟩
        rw [h1]
        unfold opR
        rw [if_neg hc, if_neg (show ¬ ((1 : Int) ≤ 0 ∧ (0 : Int) ≤ 25) by decide)]
set_option maxHeartbeats 2000000
theorem opStepT (w : World) (n : Int) (sb : ByteArray) (kk : Int) (ns : List Int) (hl : ns.length ≤ 4) (na : Option Addr) (nc : Nat) (h : RowS w AnyZ 1 (.slice na ns.length nc) ns.length (ns.flatMap cI64)) : Calls Tryd.prog 60 #[.agg #[.int .i64 n, .string sb, .int .i64 kk], .slice na ns.length nc] w fun e w' => e = .returned (vIN (insV n ns)) ∧ Below w.heap.size w w' := by
  have hcp := copy4 (w.alloc (.cells #[.int .i64 n, .string sb, .int .i64 kk] 56)) ns hl na nc (h.kept (below_alloc _)) (.cells #[.int .i64 0, .int .i64 0, .int .i64 0, .int .i64 0, .int .i64 0] 37)
  rw [show (w.alloc (.cells #[.int .i64 n, .string sb, .int .i64 kk] 56)).heap.size + 1 = w.heap.size + 1 + 1 by simp] at hcp
  have HX : Hid (vIN (insV n ns) = .agg #[.int .i64 n, .int .i64 (ns[0]?.getD 0), .int .i64 (ns[1]?.getD 0), .int .i64 (ns[2]?.getD 0), .int .i64 (ns[3]?.getD 0)]) := hid rfl
  unfold all4 at hcp
  clear h hl
  generalize ns[0]?.getD 0 = n0 at *
  generalize ns[1]?.getD 0 = n1 at *
  generalize ns[2]?.getD 0 = n2 at *
  generalize ns[3]?.getD 0 = n3 at *
  go_enter Tryd.func60, Tryd.ntmps60
  go_wp2
  exact bodyPost_ret (v := .agg #[.int .i64 n, .int .i64 n0, .int .i64 n1, .int .i64 n2, .int .i64 n3]) (by simp [results, Tryd.results60, go_sem]) rfl ⟨by rw [HX.out], by exact blBy⟩
theorem RdA.keepR {w w' : World} {p L R : Nat} {xs : List Int} {f : Bool} {t : TypeId} {cs : Array Value} (h : RdA w p L xs f) (hB : Blk w R t cs) (hcs : ∀ (i : Nat) (n : Int), cs[i]? ≠ some (Value.int .u8 n)) (hRp : p ≠ R) (g : Keep (· ≠ R) w w') : RdA w' p L xs f := by
  obtain ⟨a, len, cap, hS⟩ := h
  refine ⟨a, len, cap, hS.blk.keep g hRp, ⟨hS.rd.length, hS.rd.le, hS.rd.max, hS.rd.bd, ?_⟩, hS.ne⟩
  rcases hS.rd.cells with h0 | ⟨b, off, rfl, hc⟩
  · exact .inl h0
  · by_cases hl : len = 0
    · exact .inl ⟨hl, fun h => by cases h⟩
    · have hb : b ≠ R := fun e => by
        have h1 := hc 0 (by omega)
        rw [e, hB.cellF] at h1
        exact hcs _ _ h1
      exact .inr ⟨b, off, rfl, fun i hi => cellK g (hc i hi) hb⟩
theorem no8_2 (a b : Int) : ∀ (i : Nat) (n : Int), (#[Value.int .i64 a, Value.int .i64 b] : Array Value)[i]? ≠ some (Value.int .u8 n) := by
  intro i n h
  rcases i with _ | _ | i
  · cases h
  · cases h
  · simp at h
theorem Keep.offNew {p R : Nat} {w w1 w2 : World} (h : Keep (· ≠ p) w w1) (g : Keep (· ≠ R) w1 w2) (hR : w.heap.size ≤ R) : Keep (· ≠ p) w w2 := ⟨g.os.trans h.os, g.tape.trans h.tape, g.output.trans h.output, Nat.le_trans h.size g.size, fun k hk hf => (g.block k (Nat.lt_of_lt_of_le hk h.size) (by show k ≠ R; omega)).trans (h.block k hk hf)⟩
/-- A row. -/
def rwM (xs : List Int) (f : Bool) : LN × List Int × Bool := (⟨(nbM xs f).1, (nbM (nbM xs f).2.1 (nbM xs f).2.2).1⟩, (nbM (nbM xs f).2.1 (nbM xs f).2.2).2)
theorem rowRT (w : World) (p L : Nat) (xs : List Int) (f : Bool) (h : RdA w p L xs f) : Calls Tryd.prog 44 #[.pointer (some ⟨p, 0, none⟩)] w fun e w' => e = .returned (.agg #[.int .i64 (rwM xs f).1.tag, .int .i64 (rwM xs f).1.pl]) ∧ RdB w p L (rwM xs f).2 w' := by
  have hp : p < w.heap.size := by obtain ⟨a, l, c, hS⟩ := h; exact hS.blk.lt
  have H1 := hid (numberT (w.alloc (.cells #[.int .i64 0, .int .i64 0] 50)) p L xs f (h.kept (below_alloc _)))
  have H2 := hid fun W0 (hW : RdA W0 p L (nbM xs f).2.1 (nbM xs f).2.2) => numberT W0 p L _ _ hW
  clear h
  unfold rwM
  generalize nbM xs f = o at *
  obtain ⟨o1, o2, o3⟩ := o
  dsimp only at *
  generalize nbM o2 o3 = q at *
  obtain ⟨q1, q2⟩ := q
  dsimp only at *
  go_enter Tryd.func44, Tryd.ntmps44
  go_wp2_with fail
  refine H1.out.mono ?_
  rintro e w1 ⟨rfl, hr1, hk1⟩
  have B1 : Hid (Blk w1 w.heap.size 50 #[.int .i64 0, .int .i64 0]) := hid ((Blk.new _ _ _).keep hk1 (by omega))
  have HK1 : Hid (Keep (· ≠ p) w w1) := hid ((Keep.ofBelow (below_alloc _)).trans hk1)
  clear hk1 H1
  go_wp2_with fail
  refine (H2.out _ hr1).mono ?_
  rintro e w2 ⟨rfl, hr2, hk2⟩
  have B2 : Hid (Blk w2 w.heap.size 50 #[.int .i64 0, .int .i64 0]) := hid (B1.out.keep hk2 (by omega))
  have HK2 : Hid (Keep (· ≠ p) w w2) := hid (HK1.out.trans hk2)
  have HR2 := hid hr2
  clear hk2 H2 B1 HK1 hr1 hr2
  have x2 := B2.out.cellF
  have y2 := B2.out.frz
  have z2 := B2.out.lt
  go_wp2
  refine bodyPost_ret (v := .agg #[.int .i64 o1, .int .i64 q1]) (by simp [results, Tryd.results44, go_sem, x2, z2]) rfl ⟨rfl, ?_, ?_⟩
  · exact RdA.keepR HR2.out B2.out (no8_2 0 0) (by omega) ((Keep.setCell _ _ _ (fun h => h rfl)).trans (Keep.setCell _ _ _ (fun h => h rfl)))
  · exact HK2.out.offNew (R := w.heap.size) ((Keep.setCell _ _ _ (fun h => h rfl)).trans (Keep.setCell _ _ _ (fun h => h rfl))) (Nat.le_refl _)
/-- So many numbers. -/
def nsM : Nat → List Int → Bool → List Int × List Int × Bool
  | 0, xs, f => ([], xs, f)
  | k + 1, xs, f => ((nsM k xs f).1 ++ [(nbM (nsM k xs f).2.1 (nsM k xs f).2.2).1], (nbM (nsM k xs f).2.1 (nsM k xs f).2.2).2)
theorem nsM_len : ∀ (k : Nat) (xs : List Int) (f : Bool), (nsM k xs f).1.length = k
  | 0, _, _ => rfl
  | k + 1, xs, f => by
    show ((nsM k xs f).1 ++ [_]).length = k + 1
    rw [List.length_append, nsM_len k xs f]
    rfl
/-- A step. -/
def spM (xs : List Int) (f : Bool) : IN × List Int × Bool := (insV (opM xs f).1 (nsM (opC (opM xs f).1) (opM xs f).2.1 (opM xs f).2.2).1, (nsM (opC (opM xs f).1) (opM xs f).2.1 (opM xs f).2.2).2)
theorem opR_sh (n : Int) (h : n = 0 ∨ (1 ≤ n ∧ n ≤ 25)) : ∃ sb : ByteArray, opR n = .agg #[.int .i64 n, .string sb, .int .i64 (opC n : Int)] := by
  rcases h with rfl | h
  · exact ⟨_, rfl⟩
  · obtain ⟨k, rfl⟩ : ∃ k : Nat, n = (k : Int) + 1 := ⟨(n - 1).toNat, by omega⟩
    refine ⟨strOfNums (opNm[k]?.getD []), ?_⟩
    unfold opR opC
    rw [if_pos h]
    have e : ((k : Int) + 1 - 1).toNat = k := by omega
    rw [e]
    rfl
theorem opM_rng (xs : List Int) (f : Bool) : (opM xs f).1 = 0 ∨ (1 ≤ (opM xs f).1 ∧ (opM xs f).1 ≤ 25) := by
  unfold opM
  cases f with
  | true => exact .inl rfl
  | false =>
    cases xs with
    | nil => exact .inl rfl
    | cons c r =>
      dsimp only
      by_cases h : 1 ≤ c ∧ c ≤ 25
      · rw [if_pos h]; exact .inr h
      · rw [if_neg h]; exact .inl rfl
theorem own_neG {w : World} {base e size n : Nat} {v : Value} {fl : List Value} (h : w.ownsRow base e size v n fl) {q : Nat} {t : TypeId} {cs : Array Value} (hB : Blk w q t cs) (ht : t ≠ e) : v.ownBlock ≠ some q := fun hk => by
  obtain ⟨_, _, cur, h3⟩ := own_type h hk
  rw [show w.heap[q]? = _ from hB] at h3
  cases h3
  exact ht rfl
theorem grow_blkG {w w' : World} {base e size n : Nat} {v v' : Value} {fl : List Value} (g : Grow w w' v v') (h : w.ownsRow base e size v n fl) {q : Nat} {t : TypeId} {cs : Array Value} (hB : Blk w q t cs) (ht : t ≠ e) : Blk w' q t cs := (g.block q hB.lt (own_neG h hB ht)).trans hB
theorem RdA.grown {w w' : World} {p L : Nat} {xs : List Int} {f : Bool} (h : RdA w p L xs f) {base e size n : Nat} {v v' : Value} {fl : List Value} (ho : w.ownsRow base e size v n fl) (g : Grow w w' v v') (hL : L ≤ base) (he : 65 ≠ e) : RdA w' p L xs f := by
  obtain ⟨a, len, cap, hS⟩ := h
  exact ⟨a, len, cap, hS.keepF (F := fun b => v.ownBlock ≠ some b) (Keep.ofGrow g (fun k hk => hk)) (own_neG ho hS.blk he) (fun x hx hk => by have h1 := (own_type ho hk).1; have h2 := (hS.ne x hx).2; omega)⟩
theorem RdA.ownKept {w w' : World} {p L : Nat} {xs : List Int} {f : Bool} (h : RdA w p L xs f) {base e size n : Nat} {v : Value} {fl : List Value} (ho : w.ownsRow base e size v n fl) (g : Keep (· ≠ p) w w') (he : 65 ≠ e) : w'.ownsRow base e size v n fl := by
  obtain ⟨a, len, cap, hS⟩ := h
  exact own_keep (f := (· ≠ p)) ho (fun k hk e1 => own_neG ho hS.blk he (by rw [hk, e1])) g
theorem Keep.grown {p : Nat} {w0 w w' : World} (h : Keep (· ≠ p) w0 w) {base e size n : Nat} {v v' : Value} {fl : List Value} (ho : w.ownsRow base e size v n fl) (g : Grow w w' v v') (hb : w0.heap.size ≤ base) : Keep (· ≠ p) w0 w' := ⟨g.os.trans h.os, g.tape.trans h.tape, g.output.trans h.output, Nat.le_trans h.size g.size, fun k hk hf => (g.block k (Nat.lt_of_lt_of_le hk h.size) (fun e => by have := (own_type ho e).1; omega)).trans (h.block k hk hf)⟩
theorem no8_5 : ∀ (i : Nat) (n : Int), (#[Value.int .i64 0, Value.int .i64 0, Value.int .i64 0, Value.int .i64 0, Value.int .i64 0] : Array Value)[i]? ≠ some (Value.int .u8 n) := by
  intro i n h
  rcases i with _ | _ | _ | _ | _ | i
  · cases h
  · cases h
  · cases h
  · cases h
  · cases h
  · simp at h
theorem stepRT (w : World) (p L : Nat) (xs : List Int) (f : Bool) (h : RdA w p L xs f) (hL : L ≤ w.heap.size) : Calls Tryd.prog 42 #[.pointer (some ⟨p, 0, none⟩)] w fun e w' => e = .returned (vIN (spM xs f).1) ∧ RdB w p L (spM xs f).2 w' := by
  have hp : p < w.heap.size := by obtain ⟨a, l, c, hS⟩ := h; exact hS.blk.lt
  have H1 := hid (operationT (w.alloc (.cells #[.int .i64 0, .int .i64 0, .int .i64 0, .int .i64 0, .int .i64 0] 37)) p L xs f (h.kept (below_alloc _)))
  obtain ⟨sb, hsb⟩ := opR_sh _ (opM_rng xs f)
  rw [hsb] at H1
  have HC := hid (opC_le (opM xs f).1)
  clear h hsb
  unfold spM
  generalize opM xs f = o at *
  obtain ⟨n, ys, g⟩ := o
  dsimp only at *
  generalize opC n = ct at *
  have HLL := hid hL
  clear hL
  go_enter Tryd.func42, Tryd.ntmps42
  go_wp2_with fail
  refine H1.out.mono ?_
  rintro e w1 ⟨rfl, hr1, hk1⟩
  have BR : Hid (Blk (w1.alloc (.cells #[.int .i64 n, .string sb, .int .i64 (ct : Int)] 56)) w.heap.size 37 #[.int .i64 0, .int .i64 0, .int .i64 0, .int .i64 0, .int .i64 0]) := hid (((Blk.new _ _ _).keep hk1 (by omega)).kept (below_alloc _))
  have BQ : Hid (Blk (w1.alloc (.cells #[.int .i64 n, .string sb, .int .i64 (ct : Int)] 56)) w1.heap.size 56 #[.int .i64 n, .string sb, .int .i64 (ct : Int)]) := hid (Blk.new _ _ _)
  have HR1 := hid (hr1.kept (below_alloc (w := w1) (.cells #[.int .i64 n, .string sb, .int .i64 (ct : Int)] 56)))
  have HK1 : Hid (Keep (· ≠ p) w (w1.alloc (.cells #[.int .i64 n, .string sb, .int .i64 (ct : Int)] 56))) := hid (((Keep.ofBelow (below_alloc _)).trans hk1).trans (Keep.ofBelow (below_alloc _)))
  have HRQ : Hid (w1.heap.size ≠ p ∧ w.heap.size < w1.heap.size) := hid (by have := hk1.size; simp at this; omega)
  clear H1 hr1 hk1
  go_upto_region 2 with fail
  generalize w1.alloc (.cells #[.int .i64 n, .string sb, .int .i64 (ct : Int)] 56) = V at *
  generalize w1.heap.size = q at *
  have xq := BQ.out.cellF
  have zq := BQ.out.lt
  have c63 : (ct : Int) ≤ 4 := by have := HC.out; omega
  go_wp2
  go_loopw [4, 9] (fun s4 s9 wr => ∃ j : Nat, s9 = .int .i64 (j : Int) ∧ j ≤ ct ∧ Hid (wr.ownsRow w.heap.size 3 1 s4 (nsM j ys g).1.length ((nsM j ys g).1.flatMap cI64)) ∧ Hid (RdA wr p L (nsM j ys g).2.1 (nsM j ys g).2.2) ∧ Hid (Blk wr w.heap.size 37 #[.int .i64 0, .int .i64 0, .int .i64 0, .int .i64 0, .int .i64 0]) ∧ Hid (Blk wr q 56 #[.int .i64 n, .string sb, .int .i64 (ct : Int)]) ∧ Hid (Keep (· ≠ p) w wr)) (fun s4 s9 wr => ct - numAt wr s9)
  case atStart => exact ⟨0, rfl, by omega, hid (World.ownsRow_nil _ _ _ _), HR1, BR, BQ, HK1⟩
  case round =>
    obtain ⟨j, rfl, hj, HO, HR, BRj, BQj, HKj⟩ := hrel
    clear HR1 BR BQ HK1 xq zq
    by_cases hlt : j < ct
    · have h2 : (j : Int) < (ct : Int) := by omega
      have HN := hid (numberT wr p L _ _ HR.out)
      have HS1 : Hid ((nsM (j + 1) ys g).1 = (nsM j ys g).1 ++ [(nbM (nsM j ys g).2.1 (nsM j ys g).2.2).1]) := hid rfl
      have HS2 : Hid ((nsM (j + 1) ys g).2 = (nbM (nsM j ys g).2.1 (nsM j ys g).2.2).2) := hid rfl
      have HJ := hid (nsM_len j ys g)
      have x2 := BQj.out.cellF
      go_wp2_with fail
      refine HN.out.mono ?_
      rintro e w2 ⟨rfl, hr2, hk2⟩
      have HO2 := hid (RdA.ownKept HR.out HO.out hk2 (by decide))
      have BR2 := hid (BRj.out.keep hk2 (by omega))
      have BQ2 := hid (BQj.out.keep hk2 HRQ.out.1)
      have HK2 : Hid (Keep (· ≠ p) w w2) := hid (HKj.out.trans hk2)
      have HR2 := hid hr2
      clear hk2 hr2 HN HO HR BRj BQj HKj x2
      obtain ⟨a, c, w3, HRUN, HO3, HG3⟩ := appendIn w.heap.size u4 _ (nbM (nsM j ys g).2.1 (nsM j ys g).2.2).1 w2 HO2.out HK2.out.size (by rw [HJ.out]; omega)
      have HR3 := hid (RdA.grown HR2.out HO2.out HG3.out HLL.out (by decide))
      have BR3 := hid (grow_blkG HG3.out HO2.out BR2.out (by decide))
      have BQ3 := hid (grow_blkG HG3.out HO2.out BQ2.out (by decide))
      have HK3 := hid (Keep.grown HK2.out HO2.out HG3.out (Nat.le_refl _))
      rw [← HS1.out] at HO3
      rw [← HS2.out] at HR3
      clear HO2 HR2 BR2 BQ2 HK2 HG3 HS1 HS2
      generalize (nbM (nsM j ys g).2.1 (nsM j ys g).2.2).1 = y at *
      rw [HJ.out] at HRUN HO3
      go_wp2_with (first | (at_builtin; refine wpList_append_ran rfl (.tmp 11) (.tmp 14) 83 83 rfl rfl u4 (.slice (some ⟨w2.heap.size, 0, none⟩) 1 1) (.slice a (j + 1) c) w3 rfl rfl HRUN.out ?_))
      exact ⟨⟨j + 1, by simp, by omega, HO3, HR3, BR3, BQ3, HK3⟩, by simp [numAt]; omega⟩
    · have h2 : ¬ (j : Int) < (ct : Int) := by omega
      obtain rfl : j = ct := by omega
      have HJ := hid (nsM_len j ys g)
      obtain ⟨va, vc, rfl⟩ := own_shape HO.out
      have HST := hid (opStepT wr n sb (j : Int) (nsM j ys g).1 (by rw [HJ.out]; exact HC.out) va vc (own_row HO.out (fun _ _ => trivial)))
      rw [HJ.out] at HST
      rw [HJ.out]
      have x2 := BQj.out.cellF
      have z2 := BQj.out.lt
      go_wp2_with fail
      refine HST.out.mono ?_
      rintro e w2 ⟨rfl, hb2⟩
      have BR2 := hid (BRj.out.kept hb2)
      have HR2 := hid (HR.out.kept hb2)
      have HK2 : Hid (Keep (· ≠ p) w w2) := hid (HKj.out.trans (Keep.ofBelow hb2))
      clear hb2 HST HO HR BRj BQj HKj x2 z2
      have x3 := BR2.out.cellF
      have y3 := BR2.out.frz
      have z3 := BR2.out.lt
      obtain ⟨s0, s1, s2, s3, s4, HST⟩ : ∃ s0 s1 s2 s3 s4, Hid (vIN (insV n (nsM j ys g).1) = .agg #[.int .i64 s0, .int .i64 s1, .int .i64 s2, .int .i64 s3, .int .i64 s4]) := ⟨_, _, _, _, _, hid rfl⟩
      rw [HST.out]
      go_wp2
      refine bodyPost_ret (v := .agg #[.int .i64 s0, .int .i64 s1, .int .i64 s2, .int .i64 s3, .int .i64 s4]) (by simp [results, Tryd.results42, go_sem, x3, z3]) rfl ⟨by rw [HST.out], ?_, ?_⟩
      · exact RdA.keepR HR2.out BR2.out no8_5 (by omega) (((((Keep.setCell _ _ _ (fun h => h rfl)).trans (Keep.setCell _ _ _ (fun h => h rfl))).trans (Keep.setCell _ _ _ (fun h => h rfl))).trans (Keep.setCell _ _ _ (fun h => h rfl))).trans (Keep.setCell _ _ _ (fun h => h rfl)))
      · exact HK2.out.offNew (R := w.heap.size) (((((Keep.setCell _ _ _ (fun h => h rfl)).trans (Keep.setCell _ _ _ (fun h => h rfl))).trans (Keep.setCell _ _ _ (fun h => h rfl))).trans (Keep.setCell _ _ _ (fun h => h rfl))).trans (Keep.setCell _ _ _ (fun h => h rfl))) (Nat.le_refl _)
end Go.Proofs.YtpndejibjiojbaaDoor
