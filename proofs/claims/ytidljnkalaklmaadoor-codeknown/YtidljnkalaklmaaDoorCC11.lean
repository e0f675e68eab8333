/-
  code: a number out of the bytes that are left.
  code: the program that a few bytes are.
  What a valid program's steps are asked: where all is well, operation by operation.
-/
import Derived.Test.YtidljnkalaklmaaDoorCC8
import Derived.Test.YtidljnkalaklmaaDoorCKC
namespace Go.Proofs.YtidljnkalaklmaaDoor
open Go.RowKit
set_option maxRecDepth 1000000
set_option linter.unusedVariables false
set_option linter.unusedSimpArgs false
set_option maxHeartbeats 2000000
/-- A reader, what it has left, whether it has failed. -/
structure RdS (w : World) (p : Nat) (a : Option Addr) (len cap : Nat) (xs : List Int) (f : Bool) : Prop where
  blk : Blk w p 66 (rdC (.slice a len cap) f)
  rd : W.Reads w a len cap xs
  ne : ∀ x, a = some x → x.block ≠ p
def RdA (w : World) (p : Nat) (xs : List Int) (f : Bool) : Prop := ∃ a len cap, RdS w p a len cap xs f
theorem reads_keepP {w w' : World} {p : Nat} {a : Option Addr} {len cap : Nat} {xs : List Int} (h : W.Reads w a len cap xs) (g : Keep (· ≠ p) w w') (hne : ∀ x, a = some x → x.block ≠ p) : W.Reads w' a len cap xs := by
  refine ⟨h.length, h.le, h.max, h.bd, ?_⟩
  rcases h.cells with h0 | ⟨b, off, rfl, hc⟩
  · exact .inl h0
  · exact .inr ⟨b, off, rfl, fun i hi => cellK g (hc i hi) (hne _ rfl)⟩
theorem RdA.kept {w w' : World} {p : Nat} {xs : List Int} {f : Bool} (h : RdA w p xs f) (g : Below w.heap.size w w') : RdA w' p xs f := by
  obtain ⟨a, len, cap, hB, hr, hn⟩ := h
  exact ⟨a, len, cap, hB.kept g, W.reads_kept hr g, hn⟩
/-- A number, and what is left. -/
def szM (xs : List Int) (f : Bool) : Int × List Int × Bool := if f = true then (0, xs, true) else if (W.gv xs 0).2.2 = 0 then ((W.gv xs 0).1, xs.drop (W.gv xs 0).2.1.toNat, false) else (0, xs, true)
def SzA (w : World) (p : Nat) (o : Int × List Int × Bool) (e : Ending) (w' : World) : Prop := e = .returned (.int .u64 o.1) ∧ RdA w' p o.2.1 o.2.2 ∧ Keep (· ≠ p) w w'
theorem szFail {w : World} {p : Nat} {a : Option Addr} {len cap : Nat} {xs : List Int} {f : Bool} (h : RdS w p a len cap xs f) : RdA (w.setCell ⟨p, 76, none⟩ (.bool true)) p xs true ∧ Keep (· ≠ p) w (w.setCell ⟨p, 76, none⟩ (.bool true)) := by
  have g : Keep (· ≠ p) w (w.setCell ⟨p, 76, none⟩ (.bool true)) := Keep.setCell _ _ _ (fun h => h rfl)
  refine ⟨⟨a, len, cap, ?_, reads_keepP h.rd g h.ne, h.ne⟩, g⟩
  have := h.blk.set 76 (.bool true)
  rw [rdC_set76] at this
  exact this
theorem fromRun (b o n c k : Nat) (h1 : k ≤ n) (h2 : n ≤ c) (h3 : c ≤ 9223372036854775807) : ∃ ta : Option Addr, (ta = some ⟨b, o, none⟩ ∧ c = k ∨ ta = some ⟨b, o + k, none⟩) ∧ ∀ W0, (Instr.sliceAt 22 (.slice (some ⟨b, o, none⟩) n c) (some (.int .i64 (k : Int))) none none).run Tryd.prog W0 = .ok (.slice ta (n - k) (c - k)) W0 := by
  have e : Tryd.prog.underlying 22 = some (.slice 5) := Tryd.underlying22
  have k1 : (k : Int) ≤ (n : Int) := by omega
  have k2 : (k : Int) ≤ (c : Int) := by omega
  have k3 : (0 : Int) ≤ (k : Int) := by omega
  by_cases hc : c = k
  · refine ⟨some ⟨b, o, none⟩, .inl ⟨rfl, hc⟩, fun W0 => ?_⟩
    subst hc
    simp [Instr.sliceAt, Instr.slice, Instr.sliceBounds, Instr.sliceBound, go_sem, e, k1, k2, k3]
    intro h
    omega
  · refine ⟨some ⟨b, o + k, none⟩, .inr rfl, fun W0 => ?_⟩
    have hc2 : ¬ c - k = 0 := by omega
    have hc3 : ¬ c ≤ k := by omega
    have hc4 : k < c := by omega
    simp [Instr.sliceAt, Instr.slice, Instr.sliceBounds, Instr.sliceBound, go_sem, e, k1, k2, k3, hc, hc2, hc3, hc4]
    intro h
    omega
theorem sliceRead {w : World} {a : Option Addr} {len cap : Nat} {xs : List Int} (h : W.Reads w a len cap xs) (k : Nat) (hk : k ≤ len) (h0 : 0 < len) : ∃ ta, (∀ W0, (Instr.sliceAt 22 (.slice a len cap) (some (.int .i64 (k : Int))) none none).run Tryd.prog W0 = .ok (.slice ta (len - k) (cap - k)) W0) ∧ W.Reads w ta (len - k) (cap - k) (xs.drop k) ∧ ∀ x, ta = some x → ∃ y, a = some y ∧ y.block = x.block := by
  have hl := h.length
  have hle := h.le
  rcases h.cells with ⟨h1, _⟩ | ⟨b, off, rfl, hc⟩
  · omega
  · obtain ⟨ta, ht, hrun⟩ := fromRun b off len cap k hk h.le h.max
    refine ⟨ta, hrun, ⟨by simp [hl], by omega, by have := h.max; omega, ?_, ?_⟩, ?_⟩
    · intro i
      have := h.bd (k + i)
      simpa [List.getD_eq_getElem?_getD, List.getElem?_drop] using this
    · rcases ht with ⟨rfl, hck⟩ | rfl
      · exact .inl ⟨by omega, fun h => by cases h⟩
      · refine .inr ⟨b, off + k, rfl, fun i hi => ?_⟩
        have h2 := hc (k + i) (by omega)
        have e1 : off + (k + i) = off + k + i := by omega
        rw [e1] at h2
        rw [List.getD_eq_getElem?_getD, List.getElem?_drop, ← List.getD_eq_getElem?_getD]
        exact h2
    · intro x hx
      rcases ht with ⟨rfl, _⟩ | rfl
      · cases hx; exact ⟨_, rfl, rfl⟩
      · cases hx; exact ⟨_, rfl, rfl⟩
theorem sizeT (w : World) (p : Nat) (xs : List Int) (f : Bool) (h : RdA w p xs f) : Calls Tryd.prog 26 #[.pointer (some ⟨p, 0, none⟩)] w (SzA w p (szM xs f)) := by
  obtain ⟨a, len, cap, hS⟩ := h
  have HS := hid hS
  have c75 : w.cell? ⟨p, 75, none⟩ = some (.slice a len cap) := by rw [hS.blk.cellF, rdC_75]
  have c76 : w.cell? ⟨p, 76, none⟩ = some (.bool f) := by rw [hS.blk.cellF, rdC_76]
  have f75 := hS.blk.frz 75
  have f76 := hS.blk.frz 76
  have hp := hS.blk.lt
  have HG := hid (W.getvW a len cap 0 xs w hS.rd (Nat.zero_le _))
  have HRD := hid hS.rd
  clear hS
  cases f with
  | true =>
    have HA : Hid (∀ e w', e = .returned (.int .u64 0) → w' = w.setCell ⟨p, 76, none⟩ (.bool true) → SzA w p (szM xs true) e w') := hid (fun e w' he hw => by
      subst he hw
      exact ⟨by unfold szM; rfl, by unfold szM; exact (szFail HS.out).1, (szFail HS.out).2⟩)
    go_enter Tryd.func26, Tryd.ntmps26
    go_wp2_with fail
    refine HG.out.mono ?_
    rintro e w1 ⟨rfl, rfl⟩
    generalize W.gv xs 0 = gg at *
    go_wp2
    go_ret
    exact HA.out _ _ rfl rfl
  | false =>
    by_cases he : (W.gv xs 0).2.2 = 0
    · have hn := W.gv_next (Nat.zero_le _) he
      have hb := W.gv_bd (W.bd_mem HRD.out.bd) 0
      obtain ⟨k, hk⟩ : ∃ k : Nat, (W.gv xs 0).2.1 = (k : Int) := ⟨(W.gv xs 0).2.1.toNat, by omega⟩
      have hkl : k ≤ len := by rw [hk, HRD.out.length] at hn; omega
      have hlc := HRD.out.le
      have hmx := HRD.out.max
      obtain ⟨ta, hrun, hrd2, hblk⟩ := sliceRead HRD.out k hkl (by omega)
      have HRUN := hid hrun
      have HA : Hid (∀ e w', e = .returned (.int .u64 (W.gv xs 0).1) → w' = w.setCell ⟨p, 75, none⟩ (.slice ta (len - k) (cap - k)) → SzA w p (szM xs false) e w') := hid (fun e w' he' hw => by
        subst he' hw
        have hz : szM xs false = ((W.gv xs 0).1, xs.drop k, false) := by
          unfold szM
          rw [if_neg (by decide), if_pos he, hk]
          rfl
        rw [hz]
        have g : Keep (· ≠ p) w (w.setCell ⟨p, 75, none⟩ (.slice ta (len - k) (cap - k))) := Keep.setCell _ _ _ (fun h => h rfl)
        have hne : ∀ x, ta = some x → x.block ≠ p := fun x hx => by
          obtain ⟨y, h1, h2⟩ := hblk x hx
          rw [← h2]
          exact HS.out.ne y h1
        refine ⟨rfl, ⟨ta, len - k, cap - k, ?_, reads_keepP hrd2 g hne, hne⟩, g⟩
        have := HS.out.blk.set 75 (.slice ta (len - k) (cap - k))
        rw [rdC_set75] at this
        exact this)
      clear hn hb hkl hlc hmx hrun hrd2 hblk
      generalize hgg : W.gv xs 0 = gg at *
      obtain ⟨g1, g2, g3⟩ := gg
      dsimp only at hk he
      subst hk he
      go_enter Tryd.func26, Tryd.ntmps26
      go_wp2_with fail
      refine HG.out.mono ?_
      rintro e w1 ⟨rfl, rfl⟩
      have hr0 := HRUN.out
      go_wp2
      go_ret
      exact HA.out _ _ rfl rfl
    · have HA : Hid (∀ e w', e = .returned (.int .u64 0) → w' = w.setCell ⟨p, 76, none⟩ (.bool true) → SzA w p (szM xs false) e w') := hid (fun e w' he' hw => by
        subst he' hw
        have hz : szM xs false = (0, xs, true) := by
          unfold szM
          rw [if_neg (by decide), if_neg he]
        rw [hz]
        exact ⟨rfl, (szFail HS.out).1, (szFail HS.out).2⟩)
      have hb2 : ((W.gv xs 0).2.2 != 0) = true := by simpa using he
      generalize W.gv xs 0 = gg at *
      obtain ⟨g1, g2, g3⟩ := gg
      dsimp only at hb2 HG
      clear he
      go_enter Tryd.func26, Tryd.ntmps26
      go_wp2_with fail
      refine HG.out.mono ?_
      rintro e w1 ⟨rfl, rfl⟩
      go_wp2
      go_ret
      exact HA.out _ _ rfl rfl
set_option maxHeartbeats 4000000
theorem list0 (w : World) (p : Nat) (fv : Value) : Calls Tryd.prog 25 #[.pointer (some ⟨p, 0, none⟩), .int .u64 0, fv] w fun e w' => e = .returned (.slice none 0 0) ∧ w' = w := by
  go_enter Tryd.func25, Tryd.ntmps25
  go_wp2
  go_loopw [7, 10] (fun s7 s10 wr => s7 = .slice none 0 0 ∧ s10 = .int .u64 0 ∧ wr = w) (fun s7 s10 wr => 0)
  case atStart => exact ⟨rfl, rfl, rfl⟩
  case round =>
    obtain ⟨rfl, rfl, rfl⟩ := hrel
    go_wp2
    go_ret
    exact ⟨rfl, rfl⟩
theorem rdStore (v : Value) (f : Bool) (hv : v.oneCell' = true) (w : World) : (storeCells ⟨w.heap.size, 0, none⟩ (rdC v f).toList 0).run Tryd.prog (w.alloc (.cells Tryd.zeroCells66 66)) = .ok () (w.alloc (.cells (rdC v f) 66)) := by
  refine run_storeCells_new (P := Tryd.prog) w 66 Tryd.zeroCells66 (rdC v f) (by rw [rdC_size]; kernel_rfl) (by rw [rdC_size]; kernel_rfl) ?_
  unfold rdC
  rw [List.all_toArray, List.all_append]
  rw [show opAll.all (·.oneCell') = true by kernel_rfl]
  simp [hv]
  rfl
theorem wpList_ran {P : Program} {w : World} {ops : Array Oper} {rest : List Oper} {o : Oper} {a : Act} {Q : Exit → Act → World → Prop} (hgd : o.guard = none) (v : Value) (hr : ∀ K : Act → World → Prop, K (a.put o.dst v) w → Oper.wp P o a w K Q) (h : wpList P ops Q rest (a.put o.dst v) w) : wpList P ops Q (o :: rest) a w := wpList_plain hgd fun K hK => hr K (hK _ _ h)
theorem rdBuild {A : Array Value} (hA : A = opAll.toArray) (a : Option Addr) (n c : Nat) (f : Bool) (W0 : World) : (Instr.build 66 #[(0, .agg A), (1, .slice a n c), (2, .bool f)]).run Tryd.prog W0 = .ok (.agg (rdC (.slice a n c) f)) W0 := by
  rw [hA]
  kernel_rfl
theorem allOpsV (w : World) : Calls Tryd.prog 21 #[] w fun e w' => ∃ av : Value, e = .returned av ∧ Hid (av = .agg opAll.toArray) ∧ Below w.heap.size w w' := (allOpsT w).mono fun e w' ⟨h, hb⟩ => ⟨_, h, hid rfl, hb⟩
/-- What is behind the mark. -/
theorem programIn1 (w : World) (g n : Nat) (a : Option Addr) (rest : List Int) (hrest : rest.length = n) (hb1 : Lib.BytesIn w (some ⟨g, 0, none⟩) (n + 2) (67 :: 84 :: rest)) (hn : n ≤ 1000)
    (hrd : W.Reads w a n n rest) (hab : ∀ x, a = some x → x.block < w.heap.size)
    (htr : Lib.trimPrefixV (some ⟨g, 0, none⟩) (n + 2) (n + 2) (67 :: 84 :: rest) [67, 84] = .slice a n n) (hz : (szM rest false).1 = 0) (ff : Bool) (hff : (szM rest false).2.2 = ff) :
    Calls Tryd.prog 13 #[.slice (some ⟨g, 0, none⟩) (n + 2) (n + 2)] w fun e w' => e = .returned (.tuple #[.agg #[.slice none 0 0], .bool (!ff)]) ∧ Below w.heap.size w w' := by
  have HBI := hid hb1
  have HTR := hid htr
  have HRD := hid hrd
  have HAB := hid hab
  have HZ := hid hz
  have HFF := hid hff
  clear hb1 htr hrd hab hz hff
  have n64 : ((n + 2 : Nat) : Int) ≤ 9223372036854775807 := by omega
  go_enter Tryd.func13, Tryd.ntmps13
  have HCV := hid (Lib.run_convert_bytes_const (P := Tryd.prog) (w.alloc (.cells #[.slice none 0 0] 28)) 22 5 #[.int .u8 67, .int .u8 84] 2 2 Tryd.underlying22 Tryd.underlying5)
  go_wp2_with fail
  rw [show w.heap.size + 1 = (w.alloc (.cells #[.slice none 0 0] 28)).heap.size by simp] at *
  rw [HCV.out]
  simp only [Result.andThen]
  rw [Oper.upon_value]
  have HB1 : Hid (Below w.heap.size w ((w.alloc (.cells #[.slice none 0 0] 28)).alloc (.cells #[.int .u8 67, .int .u8 84] 5 (2, 3)))) := hid (bl_alloc (below_alloc _) _)
  have BR : Hid (Blk ((w.alloc (.cells #[.slice none 0 0] 28)).alloc (.cells #[.int .u8 67, .int .u8 84] 5 (2, 3))) w.heap.size 28 #[.slice none 0 0]) := hid ((Blk.new _ _ _).kept (below_alloc _))
  have HM : Hid (Lib.BytesIn ((w.alloc (.cells #[.slice none 0 0] 28)).alloc (.cells #[.int .u8 67, .int .u8 84] 5 (2, 3))) (some ⟨(w.alloc (.cells #[.slice none 0 0] 28)).heap.size, 0, none⟩) 2 [67, 84]) := hid (fun _ => ⟨_, 0, rfl, fun i hi => by
    rw [cellMk]
    match i, hi with
    | 0, _ => rfl
    | 1, _ => rfl⟩)
  have HBW : Hid (Lib.BytesIn ((w.alloc (.cells #[.slice none 0 0] 28)).alloc (.cells #[.int .u8 67, .int .u8 84] 5 (2, 3))) (some ⟨g, 0, none⟩) (n + 2) (67 :: 84 :: rest)) := hid (fun h => by
    obtain ⟨b', o', e', hc⟩ := HBI.out h
    exact ⟨b', o', e', fun i hi => cell_below (hc i hi) HB1.out⟩)
  simp only [List.size_toArray, List.length_cons, List.length_nil, Nat.zero_add, Nat.reduceAdd]
  clear HCV HBI
  generalize (w.alloc (.cells #[.slice none 0 0] 28)).heap.size = gm at *
  generalize (w.alloc (.cells #[.slice none 0 0] 28)).alloc (.cells #[.int .u8 67, .int .u8 84] 5 (2, 3)) = V at *
  have HCP := hid (Tryd.bytes_CutPrefix_all (some ⟨g, 0, none⟩) (some ⟨gm, 0, none⟩) (n + 2) (n + 2) 2 2 (67 :: 84 :: rest) [67, 84] V (by simp [hrest]) rfl (Nat.le_refl _) HBW.out HM.out)
  rw [HTR.out] at HCP
  have hpre : Lib.hasPrefix (Lib.bytesOf (67 :: 84 :: rest)) (Lib.bytesOf [67, 84]) = true := by simp [Lib.hasPrefix, Lib.bytesOf]
  rw [hpre] at HCP
  go_wp2_with fail
  refine HCP.out.mono ?_
  rintro e w1 ⟨rfl, rfl⟩
  go_wp2_with fail
  refine (allOpsV _).mono ?_
  rintro e w2 ⟨av, rfl, HA, hb2⟩
  obtain ⟨B1, HB1'⟩ : ∃ B1, Hid (B1 = rdC (.slice a n n) false) := ⟨_, hid rfl⟩
  have hbd : ∀ W0, (Instr.build 66 #[(0, av), (1, .slice a n n), (2, .bool false)]).run Tryd.prog W0 = .ok (.agg B1) W0 := fun W0 => by rw [HB1'.out, HA.out]; exact rdBuild rfl a n n false W0
  have b77 : B1.size = 77 := by rw [HB1'.out, rdC_size]
  have HST : Hid (∀ W0 : World, (storeCells ⟨W0.heap.size, 0, none⟩ B1.toList 0).run Tryd.prog (W0.alloc (.cells Tryd.zeroCells66 66)) = .ok () (W0.alloc (.cells B1 66))) := hid (fun W0 => by rw [HB1'.out]; exact rdStore _ _ rfl W0)
  clear HCP HBW HM hpre HTR
  rename_i hKK
  dsimp only
  refine hKK _ _ ?_
  clear hKK
  refine wpList_ran rfl (.slice a n n) (fun K hK => by unfold Oper.wp; simpa [execOp, go_sem] using hK) ?_
  refine wpList_ran rfl (.bool true) (fun K hK => by unfold Oper.wp; simpa [execOp, go_sem] using hK) ?_
  refine wpList_ran rfl (.bool false) (fun K hK => by unfold Oper.wp; simpa [execOp, go_sem] using hK) ?_
  simp only [Act.put, List.getElem_toArray, List.getElem_cons_succ, List.getElem_cons_zero, List.setIfInBounds_toArray, List.set_cons_zero, List.set_cons_succ]
  refine wpList_ran rfl (.agg B1) (fun K hK => by
    unfold Oper.wp
    simp [execOp, Act.eval, hbd, Result.andThen]
    exact hK) ?_
  simp only [Act.put, List.getElem_toArray, List.getElem_cons_succ, List.getElem_cons_zero, List.setIfInBounds_toArray, List.set_cons_zero, List.set_cons_succ]
  clear hbd HA
  go_wp2_with fail
  rw [HST.out]
  simp only [Result.andThen]
  rw [Oper.upon_skip]
  have HR0 : Hid (RdA (w2.alloc (.cells B1 66)) w2.heap.size rest false) := hid ⟨a, n, n, by rw [HB1'.out]; exact Blk.new _ _ _, W.reads_kept (W.reads_kept HRD.out (HB1.out)) (bl_alloc hb2 _), fun x hx => by have h1 := HAB.out x hx; have h2 := HB1.out.size; have h3 := hb2.size; omega⟩
  have BR2 : Hid (Blk (w2.alloc (.cells B1 66)) w.heap.size 28 #[.slice none 0 0]) := hid (BR.out.kept (bl_alloc hb2 _))
  have HB2 : Hid (Below w.heap.size w (w2.alloc (.cells B1 66))) := hid (bl_then HB1.out (bl_alloc hb2 _))
  have HP6 : Hid (w.heap.size < w2.heap.size) := hid (by have h2 := BR.out.lt; have h3 := hb2.size; omega)
  clear HST b77 HB1' hb2 BR HB1 HRD HAB
  generalize w2.alloc (.cells B1 66) = U at *
  generalize w2.heap.size = p6 at *
  go_wp2_with fail
  refine (sizeT _ _ _ _ HR0.out).mono ?_
  rintro e w3 ⟨rfl, hr3, hk3⟩
  rw [HZ.out]
  have BR3 := hid (BR2.out.keep hk3 (by have := HP6.out; omega))
  have HB3 : Hid (Below w.heap.size w w3) := hid (HB2.out.trans (Keep.below hk3 HB2.out.size (fun k hk => by have := HP6.out; omega)))
  obtain ⟨ra, rl, rc, hrS⟩ := hr3
  have c76 : w3.cell? ⟨p6, 76, none⟩ = some (.bool ff) := by rw [hrS.blk.cellF, rdC_76, HFF.out]
  have z6 := hrS.blk.lt
  clear hk3 BR2 HB2 HR0 hrS
  go_wp2_with fail
  refine (list0 _ _ _).mono ?_
  rintro e w4 ⟨rfl, rfl⟩
  have BR4 := hid (BR3.out.kept (below_alloc (w := w4) (.cells #[.slice none 0 0] 28)))
  have HB4 := hid (bl_alloc HB3.out (.cells #[.slice none 0 0] 28))
  have x0 := BR4.out.cellF
  have y0 := BR4.out.frz
  have z0 := BR4.out.lt
  have z0' := BR3.out.lt
  have x3 := BR3.out.cellF
  have y3 := BR3.out.frz
  have hne6 : p6 ≠ w.heap.size := by have := HP6.out; omega
  go_wp2_with fail
  have x0d := (BR4.out.kept (below_drew1 _)).cellF
  have y0d := (BR4.out.kept (below_drew1 _)).frz
  go_region
  all_goals go_wp2
  all_goals exact bodyPost_ret (v := .tuple #[.agg #[.slice none 0 0], .bool (!ff)]) (by simp [results, Tryd.results13, go_sem, x3, z0', x0, y0, z0, x0d, y0d]) rfl ⟨rfl, by have := HB3.out; exact blBy⟩
theorem reads1 {w : World} {g o : Nat} {x : Int} (h : w.cell? ⟨g, o, none⟩ = some (.int .u8 x)) (hx : 0 ≤ x ∧ x ≤ 255) : W.Reads w (some ⟨g, o, none⟩) 1 1 [x] := by
  refine ⟨rfl, Nat.le_refl _, by decide, fun i => ?_, .inr ⟨g, o, rfl, fun i hi => ?_⟩⟩
  · cases i with
    | zero => exact hx
    | succ i => simp
  · obtain rfl : i = 0 := by omega
    exact h
theorem reads_in {w : World} {a : Option Addr} {len cap : Nat} {xs : List Int} (h : W.Reads w a len cap xs) : Lib.BytesIn w a len xs := fun h0 => by
  rcases h.cells with ⟨h1, _⟩ | ⟨b, off, rfl, hc⟩
  · omega
  · exact ⟨b, off, rfl, hc⟩
theorem pgB_nil : pgB [] = [67, 84, 0] := by decide
/-- Read of the mark and a nought. -/
theorem readNone (w : World) (g : Nat) (h0 : w.cell? ⟨g, 0, none⟩ = some (.int .u8 67)) (h1 : w.cell? ⟨g, 1, none⟩ = some (.int .u8 84)) (h2 : w.cell? ⟨g, 2, none⟩ = some (.int .u8 0)) (hv : ∀ W0, Below w.heap.size w W0 → Calls Tryd.prog 11 #[.agg #[.slice none 0 0]] W0 fun e w' => e = .returned (.bool true) ∧ Below W0.heap.size W0 w') :
    Calls Tryd.prog 6 #[.slice (some ⟨g, 0, none⟩) 3 3] w fun e w' => e = .returned (.tuple #[.agg #[.slice none 0 0], .int .i64 0]) ∧ Below w.heap.size w w' := by
  have hgl : g < w.heap.size := World.block_lt_of_cell? _ _ h0
  have HBI : Hid (∀ W0, Below w.heap.size w W0 → Lib.BytesIn W0 (some ⟨g, 0, none⟩) 3 [67, 84, 0]) := hid (fun W0 hW _ => ⟨g, 0, rfl, fun i hi => by
    match i, hi with
    | 0, _ => exact cell_below h0 hW
    | 1, _ => exact cell_below h1 hW
    | 2, _ => exact cell_below h2 hW⟩)
  have HPI := hid fun W0 (hW : Below w.heap.size w W0) => programIn1 W0 g 1 (some ⟨g, 2, none⟩) [0] rfl (HBI.out W0 hW) (by decide) (reads1 (cell_below h2 hW) (by decide)) (fun x hx => by cases hx; have := hW.size; show g < _; omega) (by rfl) (by rfl) false (by rfl)
  have HV := hid hv
  have HBO := hid fun W0 => bytesOfT W0 [] none 0 ⟨rowS_nil _ _ _, fun x hx => by cases hx⟩ (fun x hx => by cases hx) (by decide)
  clear h0 h1 h2 hv
  go_enter Tryd.func6, Tryd.ntmps6
  go_wp2_with fail
  refine (HPI.out _ (below_alloc _)).mono ?_
  rintro e w1 ⟨rfl, hb1⟩
  have BR : Hid (Blk (w1.alloc (.cells #[.slice none 0 0] 28)) w.heap.size 28 #[.slice none 0 0]) := hid (((Blk.new _ _ _).kept hb1).kept (below_alloc _))
  have BP : Hid (Blk (w1.alloc (.cells #[.slice none 0 0] 28)) w1.heap.size 28 #[.slice none 0 0]) := hid (Blk.new _ _ _)
  have HB1 : Hid (Below w.heap.size w (w1.alloc (.cells #[.slice none 0 0] 28))) := hid (bl_alloc (bl_then (below_alloc _) hb1) _)
  have HPW : Hid (w.heap.size < w1.heap.size) := hid (by have := hb1.size; simp at this; omega)
  clear hb1 HPI
  go_upto_region 2 with fail
  generalize w1.alloc (.cells #[.slice none 0 0] 28) = V at *
  generalize w1.heap.size = p4 at *
  have x4 := BP.out.cellF
  have z4 := BP.out.lt
  go_wp2_with fail
  refine (HV.out _ HB1.out).mono ?_
  rintro e w2 ⟨rfl, hb2⟩
  replace BR := hid (BR.out.kept hb2)
  replace BP := hid (BP.out.kept hb2)
  replace HB1 := hid (bl_then HB1.out hb2)
  clear hb2 x4 z4
  have x4 := BP.out.cellF
  have z4 := BP.out.lt
  go_wp2_with fail
  refine (HBO.out _).mono ?_
  rintro e w3 ⟨v, rfl, ho3, hb3⟩
  rw [pgB_nil] at ho3
  obtain ⟨va, vcap, rfl, hrd⟩ := W.own_reads ho3 (by decide)
  have HEQ := hid (Tryd.bytes_Equal_all va (some ⟨g, 0, none⟩) 3 vcap 3 3 [67, 84, 0] [67, 84, 0] w3 rfl rfl (reads_in hrd) (HBI.out _ (bl_then HB1.out hb3)))
  rw [show (Lib.bytesOf [67, 84, 0] == Lib.bytesOf [67, 84, 0]) = true by simp] at HEQ
  replace BR := hid (BR.out.kept hb3)
  replace BP := hid (BP.out.kept hb3)
  replace HB1 := hid (bl_then HB1.out hb3)
  clear hb3 x4 z4 ho3 hrd HBO HV
  have x4 := BP.out.cellF
  have z4 := BP.out.lt
  have xr := BR.out.cellF
  have yr := BR.out.frz
  have zr := BR.out.lt
  go_wp2_with fail
  refine HEQ.out.mono ?_
  rintro e w4 ⟨rfl, rfl⟩
  go_wp2
  exact bodyPost_ret (v := .tuple #[.agg #[.slice none 0 0], .int .i64 0]) (by simp [results, Tryd.results6, go_sem, xr, zr, yr]) rfl ⟨rfl, by have := HB1.out; exact blBy⟩
/-- Read of the mark alone. -/
theorem readMark (w : World) (g : Nat) (h0 : w.cell? ⟨g, 0, none⟩ = some (.int .u8 67)) (h1 : w.cell? ⟨g, 1, none⟩ = some (.int .u8 84)) :
    Calls Tryd.prog 6 #[.slice (some ⟨g, 0, none⟩) 2 2] w fun e w' => e = .returned (.tuple #[.agg #[.slice none 0 0], .int .i64 19]) ∧ Below w.heap.size w w' := by
  have hgl : g < w.heap.size := World.block_lt_of_cell? _ _ h0
  have HBI : Hid (∀ W0, Below w.heap.size w W0 → Lib.BytesIn W0 (some ⟨g, 0, none⟩) 2 [67, 84]) := hid (fun W0 hW _ => ⟨g, 0, rfl, fun i hi => by
    match i, hi with
    | 0, _ => exact cell_below h0 hW
    | 1, _ => exact cell_below h1 hW⟩)
  have HPI := hid fun W0 (hW : Below w.heap.size w W0) => programIn1 W0 g 0 (some ⟨g, 0, none⟩) [] rfl (HBI.out W0 hW) (by decide) ⟨rfl, Nat.le_refl _, by decide, fun i => by simp, .inl ⟨rfl, fun h => by cases h⟩⟩ (fun x hx => by cases hx; have := hW.size; show g < _; omega) (by rfl) (by rfl) true (by rfl)
  clear h0 h1
  go_enter Tryd.func6, Tryd.ntmps6
  go_wp2_with fail
  refine (HPI.out _ (below_alloc _)).mono ?_
  rintro e w1 ⟨rfl, hb1⟩
  have BR : Hid (Blk (w1.alloc (.cells #[.slice none 0 0] 28)) w.heap.size 28 #[.slice none 0 0]) := hid (((Blk.new _ _ _).kept hb1).kept (below_alloc _))
  have HB1 : Hid (Below w.heap.size w (w1.alloc (.cells #[.slice none 0 0] 28))) := hid (bl_alloc (bl_then (below_alloc _) hb1) _)
  clear hb1 HPI
  go_upto_region 2 with fail
  generalize w1.alloc (.cells #[.slice none 0 0] 28) = V at *
  have xr := BR.out.cellF
  have yr := BR.out.frz
  have zr := BR.out.lt
  go_wp2
  exact bodyPost_ret (v := .tuple #[.agg #[.slice none 0 0], .int .i64 19]) (by simp [results, Tryd.results6, go_sem, xr, zr, yr]) rfl ⟨rfl, by have := HB1.out; exact blBy⟩
set_option maxHeartbeats 1000000
theorem rdTag (w : World) (bs : List BV) (ba : Option Addr) (bc : Nat) (caps : Array Value)  : Calls Tryd.prog 52 #[.slice ba bs.length bc, .agg #[.int .i64 1, .int .i64 0, .int .i64 0, .int .i64 0, .int .i64 0], .func (.func 51) #[] caps] w fun e w' => e = .returned (.bool true) ∧ Below w.heap.size w w' := by
  have HS : Hid (∀ W, Calls Tryd.prog 66 #[.int .i64 1, .slice none 0 0] W fun e w' => e = .returned (.agg #[.int .i64 1, .int .i64 0, .int .i64 0, .int .i64 0, .int .i64 0]) ∧ Below W.heap.size W w') := hid fun W => stepT W 1 [] (by simp) none 0 (rowS_nil _ _ _)
  have heq : ∀ W, (Op.equalIn 10000 42 (.agg #[.int .i64 1, .int .i64 0, .int .i64 0, .int .i64 0, .int .i64 0]) (.agg #[.int .i64 1, .int .i64 0, .int .i64 0, .int .i64 0, .int .i64 0])).run Tryd.prog W = .ok true W := fun W => by
    have := eqIN ⟨1, 0, 0, 0, 0⟩ ⟨1, 0, 0, 0, 0⟩ W
    rw [(inB_iff _ _).2 rfl] at this
    exact this
  have hgd := gdIN
  go_enter Tryd.func52, Tryd.ntmps52
  go_wp2_with fail
  have Bs : Blk (w.alloc (.cells #[.int .i64 1, .int .i64 0, .int .i64 0, .int .i64 0, .int .i64 0] 42)) w.heap.size 42 #[.int .i64 1, .int .i64 0, .int .i64 0, .int .i64 0, .int .i64 0] := Blk.new _ _ _
  have HB : Hid (Below w.heap.size w (w.alloc (.cells #[.int .i64 1, .int .i64 0, .int .i64 0, .int .i64 0, .int .i64 0] 42))) := hid (by exact blBy)
  generalize w.alloc (.cells #[.int .i64 1, .int .i64 0, .int .i64 0, .int .i64 0, .int .i64 0] 42) = V at *
  have e0 := Bs.cell 0 _ rfl
  have e1 := Bs.cell 1 _ rfl
  have e2 := Bs.cell 2 _ rfl
  have e3 := Bs.cell 3 _ rfl
  have e4 := Bs.cell 4 _ rfl
  simp only [List.getElem_toArray, List.getElem_cons_succ, List.getElem_cons_zero] at e0 e1 e2 e3 e4
  clear Bs
  go_region_held3 (fun W => W.cell? ⟨w.heap.size, 0, none⟩ = some (.int .i64 1) ∧ W.cell? ⟨w.heap.size, 1, none⟩ = some (.int .i64 0) ∧ W.cell? ⟨w.heap.size, 2, none⟩ = some (.int .i64 0) ∧ W.cell? ⟨w.heap.size, 3, none⟩ = some (.int .i64 0) ∧ W.cell? ⟨w.heap.size, 4, none⟩ = some (.int .i64 0)) (first | exact ⟨e0, e1, e2, e3, e4⟩ | exact ⟨cell_below e0 (bl_drew (below_alloc _)), cell_below e1 (bl_drew (below_alloc _)), cell_below e2 (bl_drew (below_alloc _)), cell_below e3 (bl_drew (below_alloc _)), cell_below e4 (bl_drew (below_alloc _))⟩) (first | (go_at_call 66; refine (HS.out _).mono ?_; rintro e w1 ⟨rfl, hbx⟩; replace e0 := cell_below e0 (below_trans (by first | exact Below.refl _ _ | exact below_drew1 _ | exact below_drewN _ _ | exact bl_drew (below_alloc _)) hbx); replace e1 := cell_below e1 (below_trans (by first | exact Below.refl _ _ | exact below_drew1 _ | exact below_drewN _ _ | exact bl_drew (below_alloc _)) hbx); replace e2 := cell_below e2 (below_trans (by first | exact Below.refl _ _ | exact below_drew1 _ | exact below_drewN _ _ | exact bl_drew (below_alloc _)) hbx); replace e3 := cell_below e3 (below_trans (by first | exact Below.refl _ _ | exact below_drew1 _ | exact below_drewN _ _ | exact bl_drew (below_alloc _)) hbx); replace e4 := cell_below e4 (below_trans (by first | exact Below.refl _ _ | exact below_drew1 _ | exact below_drewN _ _ | exact bl_drew (below_alloc _)) hbx); replace HB := hid (below_trans HB.out (below_trans (by first | exact Below.refl _ _ | exact below_drew1 _ | exact below_drewN _ _ | exact bl_drew (below_alloc _)) hbx)); clear hbx))
  all_goals
    go_wp2
    go_ret
    exact ⟨rfl, HB.out⟩
theorem rdKeep (w : World) (bs : List BV) (ba : Option Addr) (bc : Nat) (caps : Array Value)  : Calls Tryd.prog 52 #[.slice ba bs.length bc, .agg #[.int .i64 13, .int .i64 0, .int .i64 0, .int .i64 0, .int .i64 0], .func (.func 51) #[] caps] w fun e w' => e = .returned (.bool true) ∧ Below w.heap.size w w' := by
  have HS : Hid (∀ W, Calls Tryd.prog 66 #[.int .i64 13, .slice none 0 0] W fun e w' => e = .returned (.agg #[.int .i64 13, .int .i64 0, .int .i64 0, .int .i64 0, .int .i64 0]) ∧ Below W.heap.size W w') := hid fun W => stepT W 13 [] (by simp) none 0 (rowS_nil _ _ _)
  have heq : ∀ W, (Op.equalIn 10000 42 (.agg #[.int .i64 13, .int .i64 0, .int .i64 0, .int .i64 0, .int .i64 0]) (.agg #[.int .i64 13, .int .i64 0, .int .i64 0, .int .i64 0, .int .i64 0])).run Tryd.prog W = .ok true W := fun W => by
    have := eqIN ⟨13, 0, 0, 0, 0⟩ ⟨13, 0, 0, 0, 0⟩ W
    rw [(inB_iff _ _).2 rfl] at this
    exact this
  have hgd := gdIN
  go_enter Tryd.func52, Tryd.ntmps52
  go_wp2_with fail
  have Bs : Blk (w.alloc (.cells #[.int .i64 13, .int .i64 0, .int .i64 0, .int .i64 0, .int .i64 0] 42)) w.heap.size 42 #[.int .i64 13, .int .i64 0, .int .i64 0, .int .i64 0, .int .i64 0] := Blk.new _ _ _
  have HB : Hid (Below w.heap.size w (w.alloc (.cells #[.int .i64 13, .int .i64 0, .int .i64 0, .int .i64 0, .int .i64 0] 42))) := hid (by exact blBy)
  generalize w.alloc (.cells #[.int .i64 13, .int .i64 0, .int .i64 0, .int .i64 0, .int .i64 0] 42) = V at *
  have e0 := Bs.cell 0 _ rfl
  have e1 := Bs.cell 1 _ rfl
  have e2 := Bs.cell 2 _ rfl
  have e3 := Bs.cell 3 _ rfl
  have e4 := Bs.cell 4 _ rfl
  simp only [List.getElem_toArray, List.getElem_cons_succ, List.getElem_cons_zero] at e0 e1 e2 e3 e4
  clear Bs
  go_region_held3 (fun W => W.cell? ⟨w.heap.size, 0, none⟩ = some (.int .i64 13) ∧ W.cell? ⟨w.heap.size, 1, none⟩ = some (.int .i64 0) ∧ W.cell? ⟨w.heap.size, 2, none⟩ = some (.int .i64 0) ∧ W.cell? ⟨w.heap.size, 3, none⟩ = some (.int .i64 0) ∧ W.cell? ⟨w.heap.size, 4, none⟩ = some (.int .i64 0)) (first | exact ⟨e0, e1, e2, e3, e4⟩ | exact ⟨cell_below e0 (bl_drew (below_alloc _)), cell_below e1 (bl_drew (below_alloc _)), cell_below e2 (bl_drew (below_alloc _)), cell_below e3 (bl_drew (below_alloc _)), cell_below e4 (bl_drew (below_alloc _))⟩) (first | (go_at_call 66; refine (HS.out _).mono ?_; rintro e w1 ⟨rfl, hbx⟩; replace e0 := cell_below e0 (below_trans (by first | exact Below.refl _ _ | exact below_drew1 _ | exact below_drewN _ _ | exact bl_drew (below_alloc _)) hbx); replace e1 := cell_below e1 (below_trans (by first | exact Below.refl _ _ | exact below_drew1 _ | exact below_drewN _ _ | exact bl_drew (below_alloc _)) hbx); replace e2 := cell_below e2 (below_trans (by first | exact Below.refl _ _ | exact below_drew1 _ | exact below_drewN _ _ | exact bl_drew (below_alloc _)) hbx); replace e3 := cell_below e3 (below_trans (by first | exact Below.refl _ _ | exact below_drew1 _ | exact below_drewN _ _ | exact bl_drew (below_alloc _)) hbx); replace e4 := cell_below e4 (below_trans (by first | exact Below.refl _ _ | exact below_drew1 _ | exact below_drewN _ _ | exact bl_drew (below_alloc _)) hbx); replace HB := hid (below_trans HB.out (below_trans (by first | exact Below.refl _ _ | exact below_drew1 _ | exact below_drewN _ _ | exact bl_drew (below_alloc _)) hbx)); clear hbx))
  all_goals
    go_wp2
    go_ret
    exact ⟨rfl, HB.out⟩
theorem rdCase (w : World) (bs : List BV) (ba : Option Addr) (bc : Nat) (caps : Array Value) (a b n k : Int) (ht : TagOk a n k) (hA : ∀ W, Below w.heap.size w W → Calls Tryd.prog 51 (#[.int .i64 b] ++ caps) W fun e w' => e = .returned (.bool true) ∧ Below W.heap.size W w') : Calls Tryd.prog 52 #[.slice ba bs.length bc, .agg #[.int .i64 2, .int .i64 a, .int .i64 b, .int .i64 0, .int .i64 0], .func (.func 51) #[] caps] w fun e w' => e = .returned (.bool true) ∧ Below w.heap.size w w' := by
  have HS : Hid (∀ W zb, Blk W zb 3 (ints [a, b]) → Calls Tryd.prog 66 #[.int .i64 2, .slice (some ⟨zb, 0, none⟩) 2 2] W fun e w' => e = .returned (.agg #[.int .i64 2, .int .i64 a, .int .i64 b, .int .i64 0, .int .i64 0]) ∧ Below W.heap.size W w') := hid fun W zb hB => stepL W 2 [a, b] (by simp) zb hB
  have heq : ∀ W, (Op.equalIn 10000 42 (.agg #[.int .i64 2, .int .i64 a, .int .i64 b, .int .i64 0, .int .i64 0]) (.agg #[.int .i64 2, .int .i64 a, .int .i64 b, .int .i64 0, .int .i64 0])).run Tryd.prog W = .ok true W := fun W => by
    have := eqIN ⟨2, a, b, 0, 0⟩ ⟨2, a, b, 0, 0⟩ W
    rw [(inB_iff _ _).2 rfl] at this
    exact this
  have hgd := gdIN
  have HT := hid (isTagT · a n k ht)
  have HA := hid hA
  go_enter Tryd.func52, Tryd.ntmps52
  go_wp2_with fail
  have Bs : Blk (w.alloc (.cells #[.int .i64 2, .int .i64 a, .int .i64 b, .int .i64 0, .int .i64 0] 42)) w.heap.size 42 #[.int .i64 2, .int .i64 a, .int .i64 b, .int .i64 0, .int .i64 0] := Blk.new _ _ _
  have HB : Hid (Below w.heap.size w (w.alloc (.cells #[.int .i64 2, .int .i64 a, .int .i64 b, .int .i64 0, .int .i64 0] 42))) := hid (by exact blBy)
  generalize w.alloc (.cells #[.int .i64 2, .int .i64 a, .int .i64 b, .int .i64 0, .int .i64 0] 42) = V at *
  have e0 := Bs.cell 0 _ rfl
  have e1 := Bs.cell 1 _ rfl
  have e2 := Bs.cell 2 _ rfl
  have e3 := Bs.cell 3 _ rfl
  have e4 := Bs.cell 4 _ rfl
  simp only [List.getElem_toArray, List.getElem_cons_succ, List.getElem_cons_zero] at e0 e1 e2 e3 e4
  clear Bs
  go_region_held3 (fun W => W.cell? ⟨w.heap.size, 0, none⟩ = some (.int .i64 2) ∧ W.cell? ⟨w.heap.size, 1, none⟩ = some (.int .i64 a) ∧ W.cell? ⟨w.heap.size, 2, none⟩ = some (.int .i64 b) ∧ W.cell? ⟨w.heap.size, 3, none⟩ = some (.int .i64 0) ∧ W.cell? ⟨w.heap.size, 4, none⟩ = some (.int .i64 0)) (first | exact ⟨e0, e1, e2, e3, e4⟩ | exact ⟨cell_below e0 (bl_drew (below_alloc _)), cell_below e1 (bl_drew (below_alloc _)), cell_below e2 (bl_drew (below_alloc _)), cell_below e3 (bl_drew (below_alloc _)), cell_below e4 (bl_drew (below_alloc _))⟩) (first | (go_at_call 66; refine (HS.out _ _ ((Blk.new _ _ _).kept (below_drew1 _))).mono ?_; rintro e w1 ⟨rfl, hbx⟩; replace e0 := cell_below e0 (below_trans (by first | exact Below.refl _ _ | exact below_drew1 _ | exact below_drewN _ _ | exact bl_drew (below_alloc _)) hbx); replace e1 := cell_below e1 (below_trans (by first | exact Below.refl _ _ | exact below_drew1 _ | exact below_drewN _ _ | exact bl_drew (below_alloc _)) hbx); replace e2 := cell_below e2 (below_trans (by first | exact Below.refl _ _ | exact below_drew1 _ | exact below_drewN _ _ | exact bl_drew (below_alloc _)) hbx); replace e3 := cell_below e3 (below_trans (by first | exact Below.refl _ _ | exact below_drew1 _ | exact below_drewN _ _ | exact bl_drew (below_alloc _)) hbx); replace e4 := cell_below e4 (below_trans (by first | exact Below.refl _ _ | exact below_drew1 _ | exact below_drewN _ _ | exact bl_drew (below_alloc _)) hbx); replace HB := hid (below_trans HB.out (below_trans (by first | exact Below.refl _ _ | exact below_drew1 _ | exact below_drewN _ _ | exact bl_drew (below_alloc _)) hbx)); clear hbx) | (go_at_call 56; refine (HT.out _).mono ?_; rintro e w2 ⟨rfl, rfl⟩) | (go_at_call 51; refine (HA.out _ (below_trans HB.out (by first | exact Below.refl _ _ | exact below_drew1 _ | exact below_drewN _ _))).mono ?_; rintro e w2 ⟨rfl, hbx⟩; replace e0 := cell_below e0 (below_trans (by first | exact Below.refl _ _ | exact below_drew1 _ | exact below_drewN _ _ | exact bl_drew (below_alloc _)) hbx); replace e1 := cell_below e1 (below_trans (by first | exact Below.refl _ _ | exact below_drew1 _ | exact below_drewN _ _ | exact bl_drew (below_alloc _)) hbx); replace e2 := cell_below e2 (below_trans (by first | exact Below.refl _ _ | exact below_drew1 _ | exact below_drewN _ _ | exact bl_drew (below_alloc _)) hbx); replace e3 := cell_below e3 (below_trans (by first | exact Below.refl _ _ | exact below_drew1 _ | exact below_drewN _ _ | exact bl_drew (below_alloc _)) hbx); replace e4 := cell_below e4 (below_trans (by first | exact Below.refl _ _ | exact below_drew1 _ | exact below_drewN _ _ | exact bl_drew (below_alloc _)) hbx); replace HB := hid (below_trans HB.out (below_trans (by first | exact Below.refl _ _ | exact below_drew1 _ | exact below_drewN _ _ | exact bl_drew (below_alloc _)) hbx)); clear hbx))
  all_goals
    go_wp2
    go_ret
    exact ⟨rfl, HB.out⟩
theorem rdGo (w : World) (bs : List BV) (ba : Option Addr) (bc : Nat) (caps : Array Value)  : Calls Tryd.prog 52 #[.slice ba bs.length bc, .agg #[.int .i64 4, .int .i64 0, .int .i64 0, .int .i64 0, .int .i64 0], .func (.func 51) #[] caps] w fun e w' => e = .returned (.bool true) ∧ Below w.heap.size w w' := by
  have HS : Hid (∀ W zb, Blk W zb 3 (ints [0]) → Calls Tryd.prog 66 #[.int .i64 4, .slice (some ⟨zb, 0, none⟩) 1 1] W fun e w' => e = .returned (.agg #[.int .i64 4, .int .i64 0, .int .i64 0, .int .i64 0, .int .i64 0]) ∧ Below W.heap.size W w') := hid fun W zb hB => stepL W 4 [0] (by simp) zb hB
  have heq : ∀ W, (Op.equalIn 10000 42 (.agg #[.int .i64 4, .int .i64 0, .int .i64 0, .int .i64 0, .int .i64 0]) (.agg #[.int .i64 4, .int .i64 0, .int .i64 0, .int .i64 0, .int .i64 0])).run Tryd.prog W = .ok true W := fun W => by
    have := eqIN ⟨4, 0, 0, 0, 0⟩ ⟨4, 0, 0, 0, 0⟩ W
    rw [(inB_iff _ _).2 rfl] at this
    exact this
  have hgd := gdIN
  go_enter Tryd.func52, Tryd.ntmps52
  go_wp2_with fail
  have Bs : Blk (w.alloc (.cells #[.int .i64 4, .int .i64 0, .int .i64 0, .int .i64 0, .int .i64 0] 42)) w.heap.size 42 #[.int .i64 4, .int .i64 0, .int .i64 0, .int .i64 0, .int .i64 0] := Blk.new _ _ _
  have HB : Hid (Below w.heap.size w (w.alloc (.cells #[.int .i64 4, .int .i64 0, .int .i64 0, .int .i64 0, .int .i64 0] 42))) := hid (by exact blBy)
  generalize w.alloc (.cells #[.int .i64 4, .int .i64 0, .int .i64 0, .int .i64 0, .int .i64 0] 42) = V at *
  have e0 := Bs.cell 0 _ rfl
  have e1 := Bs.cell 1 _ rfl
  have e2 := Bs.cell 2 _ rfl
  have e3 := Bs.cell 3 _ rfl
  have e4 := Bs.cell 4 _ rfl
  simp only [List.getElem_toArray, List.getElem_cons_succ, List.getElem_cons_zero] at e0 e1 e2 e3 e4
  clear Bs
  refine wp_region_held_drew (S := fun W => W.cell? ⟨w.heap.size, 0, none⟩ = some (.int .i64 4) ∧ W.cell? ⟨w.heap.size, 1, none⟩ = some (.int .i64 0) ∧ W.cell? ⟨w.heap.size, 2, none⟩ = some (.int .i64 0) ∧ W.cell? ⟨w.heap.size, 3, none⟩ = some (.int .i64 0) ∧ W.cell? ⟨w.heap.size, 4, none⟩ = some (.int .i64 0)) (by kernel_rfl) ?_ (fun hHeld => ?_)
  · exact ⟨e0, e1, e2, e3, e4⟩
  refine wpAnyH_take (i := 0) (v := ?_) rfl (by kernel_rfl) (by kernel_rfl) (by kernel_rfl) (fun _ _ _ h => h) (Or.inl ⟨by rfl, ?_⟩) (by assumption) ?_
  rotate_left
  · (intro w hSw; (try dsimp only at hSw); go_simp; (try with_reducible rfl))
  try simp only [Act.put, List.getElem_toArray, List.getElem_cons_succ, List.getElem_cons_zero, List.setIfInBounds_toArray, List.set_cons_zero, List.set_cons_succ]
  refine wpAnyH_take (i := 1) (v := ?_) rfl (by kernel_rfl) (by kernel_rfl) (by kernel_rfl) (fun _ _ _ h => h) (Or.inl ⟨by rfl, ?_⟩) (by assumption) ?_
  rotate_left
  · (intro w hSw; (try dsimp only at hSw); go_simp; (try with_reducible rfl))
  try simp only [Act.put, List.getElem_toArray, List.getElem_cons_succ, List.getElem_cons_zero, List.setIfInBounds_toArray, List.set_cons_zero, List.set_cons_succ]
  refine wpAnyH_take (i := 2) (v := ?_) rfl (by kernel_rfl) (by kernel_rfl) (by kernel_rfl) (fun _ _ _ h => h) (Or.inl ⟨by rfl, ?_⟩) (by assumption) ?_
  rotate_left
  · (intro w hSw; (try dsimp only at hSw); go_simp; (try with_reducible rfl))
  try simp only [Act.put, List.getElem_toArray, List.getElem_cons_succ, List.getElem_cons_zero, List.setIfInBounds_toArray, List.set_cons_zero, List.set_cons_succ]
  refine wpAnyH_take (i := 3) (v := ?_) rfl (by kernel_rfl) (by kernel_rfl) (by kernel_rfl) (fun _ _ _ h => h) (Or.inl ⟨by rfl, ?_⟩) (by assumption) ?_
  rotate_left
  · (intro w hSw; (try dsimp only at hSw); go_simp; (try with_reducible rfl))
  try simp only [Act.put, List.getElem_toArray, List.getElem_cons_succ, List.getElem_cons_zero, List.setIfInBounds_toArray, List.set_cons_zero, List.set_cons_succ]
  refine wpAnyH_take (i := 4) (v := ?_) rfl (by kernel_rfl) (by kernel_rfl) (by kernel_rfl) (fun _ _ _ h => h) (Or.inl ⟨by rfl, ?_⟩) (by assumption) ?_
  rotate_left
  · (intro w hSw; (try dsimp only at hSw); go_simp; (try with_reducible rfl))
  try simp only [Act.put, List.getElem_toArray, List.getElem_cons_succ, List.getElem_cons_zero, List.setIfInBounds_toArray, List.set_cons_zero, List.set_cons_succ]
  refine wpAnyH_ready (rs := [5]) (by kernel_rfl) (by simp) ?_
  refine AllReadyH.cons rfl (fun K hK => ?_) AllReadyH.nil
  go_simp
  refine hK.out _ _ ?_ (fun hHeld => ?_)
  · first | exact ⟨e0, e1, e2, e3, e4⟩ | exact ⟨cell_below e0 (bl_drew (below_alloc _)), cell_below e1 (bl_drew (below_alloc _)), cell_below e2 (bl_drew (below_alloc _)), cell_below e3 (bl_drew (below_alloc _)), cell_below e4 (bl_drew (below_alloc _))⟩ | exact ⟨cell_below e0 (below_alloc _), cell_below e1 (below_alloc _), cell_below e2 (below_alloc _), cell_below e3 (below_alloc _), cell_below e4 (below_alloc _)⟩
  clear hK K
  try simp only [Act.put, List.getElem_toArray, List.getElem_cons_succ, List.getElem_cons_zero, List.setIfInBounds_toArray, List.set_cons_zero, List.set_cons_succ]
  refine wpAnyH_ready (rs := [6]) (by kernel_rfl) (by simp) ?_
  refine AllReadyH.cons rfl (fun K hK => ?_) AllReadyH.nil
  go_simp
  go_wp2_with (go_at_call 66; refine (HS.out _ _ ((Blk.new _ _ _).kept (below_drew1 _))).mono ?_; rintro e w1 ⟨rfl, hbx⟩; replace e0 := cell_below e0 (below_trans (by first | exact Below.refl _ _ | exact below_drew1 _ | exact below_drewN _ _ | exact bl_drew (below_alloc _)) hbx); replace e1 := cell_below e1 (below_trans (by first | exact Below.refl _ _ | exact below_drew1 _ | exact below_drewN _ _ | exact bl_drew (below_alloc _)) hbx); replace e2 := cell_below e2 (below_trans (by first | exact Below.refl _ _ | exact below_drew1 _ | exact below_drewN _ _ | exact bl_drew (below_alloc _)) hbx); replace e3 := cell_below e3 (below_trans (by first | exact Below.refl _ _ | exact below_drew1 _ | exact below_drewN _ _ | exact bl_drew (below_alloc _)) hbx); replace e4 := cell_below e4 (below_trans (by first | exact Below.refl _ _ | exact below_drew1 _ | exact below_drewN _ _ | exact bl_drew (below_alloc _)) hbx); replace HB := hid (below_trans HB.out (below_trans (by first | exact Below.refl _ _ | exact below_drew1 _ | exact below_drewN _ _ | exact bl_drew (below_alloc _)) hbx)); clear hbx)
  refine hK.out _ _ ?_ (fun hHeld => ?_)
  · first | exact ⟨e0, e1, e2, e3, e4⟩ | exact ⟨cell_below e0 (bl_drew (below_alloc _)), cell_below e1 (bl_drew (below_alloc _)), cell_below e2 (bl_drew (below_alloc _)), cell_below e3 (bl_drew (below_alloc _)), cell_below e4 (bl_drew (below_alloc _))⟩ | exact ⟨cell_below e0 (below_alloc _), cell_below e1 (below_alloc _), cell_below e2 (below_alloc _), cell_below e3 (below_alloc _), cell_below e4 (below_alloc _)⟩
  clear hK K
  try simp only [Act.put, List.getElem_toArray, List.getElem_cons_succ, List.getElem_cons_zero, List.setIfInBounds_toArray, List.set_cons_zero, List.set_cons_succ]
  refine wpAnyH_take (i := 7) (v := ?_) rfl (by kernel_rfl) (by kernel_rfl) (by kernel_rfl) (fun _ _ _ h => h) (Or.inl ⟨by rfl, ?_⟩) (by assumption) ?_
  rotate_left
  · (intro w hSw; (try dsimp only at hSw); go_simp; (try with_reducible rfl))
  try simp only [Act.put, List.getElem_toArray, List.getElem_cons_succ, List.getElem_cons_zero, List.setIfInBounds_toArray, List.set_cons_zero, List.set_cons_succ]
  refine wpAnyH_take (i := 8) (v := ?_) rfl (by kernel_rfl) (by kernel_rfl) (by kernel_rfl) (fun _ _ _ h => h) (Or.inl ⟨by rfl, ?_⟩) (by assumption) ?_
  rotate_left
  · (intro w hSw; (try dsimp only at hSw); go_simp; (try with_reducible rfl))
  try simp only [Act.put, List.getElem_toArray, List.getElem_cons_succ, List.getElem_cons_zero, List.setIfInBounds_toArray, List.set_cons_zero, List.set_cons_succ]
  refine wpAnyH_take (i := 9) (v := ?_) rfl (by kernel_rfl) (by kernel_rfl) (by kernel_rfl) (fun _ _ _ h => h) (Or.inl ⟨by rfl, ?_⟩) (by assumption) ?_
  rotate_left
  · (intro w hSw; (try dsimp only at hSw); go_simp; (try with_reducible rfl))
  try simp only [Act.put, List.getElem_toArray, List.getElem_cons_succ, List.getElem_cons_zero, List.setIfInBounds_toArray, List.set_cons_zero, List.set_cons_succ]
  refine wpAnyH_take (i := 10) (v := ?_) rfl (by kernel_rfl) (by kernel_rfl) (by kernel_rfl) (fun _ _ _ h => h) (Or.inl ⟨by rfl, ?_⟩) (by assumption) ?_
  rotate_left
  · (intro w hSw; (try dsimp only at hSw); go_simp; (try with_reducible rfl))
  try simp only [Act.put, List.getElem_toArray, List.getElem_cons_succ, List.getElem_cons_zero, List.setIfInBounds_toArray, List.set_cons_zero, List.set_cons_succ]
  refine wpAnyH_take (i := 11) (v := ?_) rfl (by kernel_rfl) (by kernel_rfl) (by kernel_rfl) (fun _ _ _ h => h) (Or.inl ⟨by rfl, ?_⟩) (by assumption) ?_
  rotate_left
  · (intro w hSw; (try dsimp only at hSw); go_simp; (try with_reducible rfl))
  try simp only [Act.put, List.getElem_toArray, List.getElem_cons_succ, List.getElem_cons_zero, List.setIfInBounds_toArray, List.set_cons_zero, List.set_cons_succ]
  refine wpAnyH_take (i := 12) (v := ?_) rfl (by kernel_rfl) (by kernel_rfl) (by kernel_rfl) (fun _ _ _ h => h) (Or.inl ⟨by rfl, ?_⟩) (by assumption) ?_
  rotate_left
  · (intro w hSw; (try dsimp only at hSw); go_simp; (try with_reducible rfl))
  try simp only [Act.put, List.getElem_toArray, List.getElem_cons_succ, List.getElem_cons_zero, List.setIfInBounds_toArray, List.set_cons_zero, List.set_cons_succ]
  refine wpAnyH_take (i := 13) (v := undef) rfl (by kernel_rfl) (by kernel_rfl) (by kernel_rfl) (fun _ _ _ h => h) (Or.inr ⟨by kernel_rfl, rfl⟩) (by assumption) ?_
  try simp only [Act.put, List.getElem_toArray, List.getElem_cons_succ, List.getElem_cons_zero, List.setIfInBounds_toArray, List.set_cons_zero, List.set_cons_succ]
  refine wpAnyH_take (i := 14) (v := undef) rfl (by kernel_rfl) (by kernel_rfl) (by kernel_rfl) (fun _ _ _ h => h) (Or.inr ⟨by kernel_rfl, rfl⟩) (by assumption) ?_
  try simp only [Act.put, List.getElem_toArray, List.getElem_cons_succ, List.getElem_cons_zero, List.setIfInBounds_toArray, List.set_cons_zero, List.set_cons_succ]
  refine wpAnyH_take (i := 15) (v := undef) rfl (by kernel_rfl) (by kernel_rfl) (by kernel_rfl) (fun _ _ _ h => h) (Or.inr ⟨by kernel_rfl, rfl⟩) (by assumption) ?_
  try simp only [Act.put, List.getElem_toArray, List.getElem_cons_succ, List.getElem_cons_zero, List.setIfInBounds_toArray, List.set_cons_zero, List.set_cons_succ]
  refine wpAnyH_take (i := 16) (v := undef) rfl (by kernel_rfl) (by kernel_rfl) (by kernel_rfl) (fun _ _ _ h => h) (Or.inr ⟨by kernel_rfl, rfl⟩) (by assumption) ?_
  try simp only [Act.put, List.getElem_toArray, List.getElem_cons_succ, List.getElem_cons_zero, List.setIfInBounds_toArray, List.set_cons_zero, List.set_cons_succ]
  refine wpAnyH_take (i := 17) (v := ?_) rfl (by kernel_rfl) (by kernel_rfl) (by kernel_rfl) (fun _ _ _ h => h) (Or.inl ⟨by rfl, ?_⟩) (by assumption) ?_
  rotate_left
  · (intro w hSw; (try dsimp only at hSw); go_simp; (try with_reducible rfl))
  try simp only [Act.put, List.getElem_toArray, List.getElem_cons_succ, List.getElem_cons_zero, List.setIfInBounds_toArray, List.set_cons_zero, List.set_cons_succ]
  refine wpAnyH_take (i := 18) (v := ?_) rfl (by kernel_rfl) (by kernel_rfl) (by kernel_rfl) (fun _ _ _ h => h) (Or.inl ⟨by rfl, ?_⟩) (by assumption) ?_
  rotate_left
  · (intro w hSw; (try dsimp only at hSw); go_simp; (try with_reducible rfl))
  try simp only [Act.put, List.getElem_toArray, List.getElem_cons_succ, List.getElem_cons_zero, List.setIfInBounds_toArray, List.set_cons_zero, List.set_cons_succ]
  refine wpAnyH_take (i := 19) (v := ?_) rfl (by kernel_rfl) (by kernel_rfl) (by kernel_rfl) (fun _ _ _ h => h) (Or.inl ⟨by rfl, ?_⟩) (by assumption) ?_
  rotate_left
  · (intro w hSw; (try dsimp only at hSw); go_simp; (try with_reducible rfl))
  try simp only [Act.put, List.getElem_toArray, List.getElem_cons_succ, List.getElem_cons_zero, List.setIfInBounds_toArray, List.set_cons_zero, List.set_cons_succ]
  refine wpAnyH_done (by kernel_rfl) ?_ _
  all_goals
    go_wp2
    go_ret
    exact ⟨rfl, HB.out⟩
theorem rdRead (w : World) (bs : List BV) (ba : Option Addr) (bc : Nat) (caps : Array Value) (a : Int) (hs : 1 ≤ a ∧ a ≤ 16) : Calls Tryd.prog 52 #[.slice ba bs.length bc, .agg #[.int .i64 5, .int .i64 a, .int .i64 0, .int .i64 0, .int .i64 0], .func (.func 51) #[] caps] w fun e w' => e = .returned (.bool true) ∧ Below w.heap.size w w' := by
  have HS : Hid (∀ W zb, Blk W zb 3 (ints [a]) → Calls Tryd.prog 66 #[.int .i64 5, .slice (some ⟨zb, 0, none⟩) 1 1] W fun e w' => e = .returned (.agg #[.int .i64 5, .int .i64 a, .int .i64 0, .int .i64 0, .int .i64 0]) ∧ Below W.heap.size W w') := hid fun W zb hB => stepL W 5 [a] (by simp) zb hB
  have heq : ∀ W, (Op.equalIn 10000 42 (.agg #[.int .i64 5, .int .i64 a, .int .i64 0, .int .i64 0, .int .i64 0]) (.agg #[.int .i64 5, .int .i64 a, .int .i64 0, .int .i64 0, .int .i64 0])).run Tryd.prog W = .ok true W := fun W => by
    have := eqIN ⟨5, a, 0, 0, 0⟩ ⟨5, a, 0, 0, 0⟩ W
    rw [(inB_iff _ _).2 rfl] at this
    exact this
  have hgd := gdIN
  have HG := hid (isSingleT · a hs)
  go_enter Tryd.func52, Tryd.ntmps52
  go_wp2_with fail
  have Bs : Blk (w.alloc (.cells #[.int .i64 5, .int .i64 a, .int .i64 0, .int .i64 0, .int .i64 0] 42)) w.heap.size 42 #[.int .i64 5, .int .i64 a, .int .i64 0, .int .i64 0, .int .i64 0] := Blk.new _ _ _
  have HB : Hid (Below w.heap.size w (w.alloc (.cells #[.int .i64 5, .int .i64 a, .int .i64 0, .int .i64 0, .int .i64 0] 42))) := hid (by exact blBy)
  generalize w.alloc (.cells #[.int .i64 5, .int .i64 a, .int .i64 0, .int .i64 0, .int .i64 0] 42) = V at *
  have e0 := Bs.cell 0 _ rfl
  have e1 := Bs.cell 1 _ rfl
  have e2 := Bs.cell 2 _ rfl
  have e3 := Bs.cell 3 _ rfl
  have e4 := Bs.cell 4 _ rfl
  simp only [List.getElem_toArray, List.getElem_cons_succ, List.getElem_cons_zero] at e0 e1 e2 e3 e4
  clear Bs
  go_region_held3 (fun W => W.cell? ⟨w.heap.size, 0, none⟩ = some (.int .i64 5) ∧ W.cell? ⟨w.heap.size, 1, none⟩ = some (.int .i64 a) ∧ W.cell? ⟨w.heap.size, 2, none⟩ = some (.int .i64 0) ∧ W.cell? ⟨w.heap.size, 3, none⟩ = some (.int .i64 0) ∧ W.cell? ⟨w.heap.size, 4, none⟩ = some (.int .i64 0)) (first | exact ⟨e0, e1, e2, e3, e4⟩ | exact ⟨cell_below e0 (bl_drew (below_alloc _)), cell_below e1 (bl_drew (below_alloc _)), cell_below e2 (bl_drew (below_alloc _)), cell_below e3 (bl_drew (below_alloc _)), cell_below e4 (bl_drew (below_alloc _))⟩) (first | (go_at_call 66; refine (HS.out _ _ ((Blk.new _ _ _).kept (below_drew1 _))).mono ?_; rintro e w1 ⟨rfl, hbx⟩; replace e0 := cell_below e0 (below_trans (by first | exact Below.refl _ _ | exact below_drew1 _ | exact below_drewN _ _ | exact bl_drew (below_alloc _)) hbx); replace e1 := cell_below e1 (below_trans (by first | exact Below.refl _ _ | exact below_drew1 _ | exact below_drewN _ _ | exact bl_drew (below_alloc _)) hbx); replace e2 := cell_below e2 (below_trans (by first | exact Below.refl _ _ | exact below_drew1 _ | exact below_drewN _ _ | exact bl_drew (below_alloc _)) hbx); replace e3 := cell_below e3 (below_trans (by first | exact Below.refl _ _ | exact below_drew1 _ | exact below_drewN _ _ | exact bl_drew (below_alloc _)) hbx); replace e4 := cell_below e4 (below_trans (by first | exact Below.refl _ _ | exact below_drew1 _ | exact below_drewN _ _ | exact bl_drew (below_alloc _)) hbx); replace HB := hid (below_trans HB.out (below_trans (by first | exact Below.refl _ _ | exact below_drew1 _ | exact below_drewN _ _ | exact bl_drew (below_alloc _)) hbx)); clear hbx) | (go_at_call 67; refine (HG.out _).mono ?_; rintro e w2 ⟨rfl, rfl⟩))
  all_goals
    go_wp2
    go_ret
    exact ⟨rfl, HB.out⟩
theorem rdSym (w : World) (bs : List BV) (ba : Option Addr) (bc : Nat) (caps : Array Value) (k : Nat) (hp : PgR w (.slice ba bs.length bc) bs) (hl : k < bs.length) (h1 : bs[k].k.dec.length = 0) (h2 : bs[k].k.enc.length = 0) : Calls Tryd.prog 52 #[.slice ba bs.length bc, .agg #[.int .i64 6, .int .i64 (k : Int), .int .i64 0, .int .i64 0, .int .i64 0], .func (.func 51) #[] caps] w fun e w' => e = .returned (.bool true) ∧ Below w.heap.size w w' := by
  have HS : Hid (∀ W zb, Blk W zb 3 (ints [(k : Int)]) → Calls Tryd.prog 66 #[.int .i64 6, .slice (some ⟨zb, 0, none⟩) 1 1] W fun e w' => e = .returned (.agg #[.int .i64 6, .int .i64 (k : Int), .int .i64 0, .int .i64 0, .int .i64 0]) ∧ Below W.heap.size W w') := hid fun W zb hB => stepL W 6 [(k : Int)] (by simp) zb hB
  have heq : ∀ W, (Op.equalIn 10000 42 (.agg #[.int .i64 6, .int .i64 (k : Int), .int .i64 0, .int .i64 0, .int .i64 0]) (.agg #[.int .i64 6, .int .i64 (k : Int), .int .i64 0, .int .i64 0, .int .i64 0])).run Tryd.prog W = .ok true W := fun W => by
    have := eqIN ⟨6, (k : Int), 0, 0, 0⟩ ⟨6, (k : Int), 0, 0, 0⟩ W
    rw [(inB_iff _ _).2 rfl] at this
    exact this
  have hgd := gdIN
  have HE := hid (fun W hW => isEnumT W bs ba bc (hp.kept hW) k hl h1 h2)
  go_enter Tryd.func52, Tryd.ntmps52
  go_wp2_with fail
  have Bs : Blk (w.alloc (.cells #[.int .i64 6, .int .i64 (k : Int), .int .i64 0, .int .i64 0, .int .i64 0] 42)) w.heap.size 42 #[.int .i64 6, .int .i64 (k : Int), .int .i64 0, .int .i64 0, .int .i64 0] := Blk.new _ _ _
  have HB : Hid (Below w.heap.size w (w.alloc (.cells #[.int .i64 6, .int .i64 (k : Int), .int .i64 0, .int .i64 0, .int .i64 0] 42))) := hid (by exact blBy)
  generalize w.alloc (.cells #[.int .i64 6, .int .i64 (k : Int), .int .i64 0, .int .i64 0, .int .i64 0] 42) = V at *
  have e0 := Bs.cell 0 _ rfl
  have e1 := Bs.cell 1 _ rfl
  have e2 := Bs.cell 2 _ rfl
  have e3 := Bs.cell 3 _ rfl
  have e4 := Bs.cell 4 _ rfl
  simp only [List.getElem_toArray, List.getElem_cons_succ, List.getElem_cons_zero] at e0 e1 e2 e3 e4
  clear Bs
  go_region_held3 (fun W => W.cell? ⟨w.heap.size, 0, none⟩ = some (.int .i64 6) ∧ W.cell? ⟨w.heap.size, 1, none⟩ = some (.int .i64 (k : Int)) ∧ W.cell? ⟨w.heap.size, 2, none⟩ = some (.int .i64 0) ∧ W.cell? ⟨w.heap.size, 3, none⟩ = some (.int .i64 0) ∧ W.cell? ⟨w.heap.size, 4, none⟩ = some (.int .i64 0)) (first | exact ⟨e0, e1, e2, e3, e4⟩ | exact ⟨cell_below e0 (bl_drew (below_alloc _)), cell_below e1 (bl_drew (below_alloc _)), cell_below e2 (bl_drew (below_alloc _)), cell_below e3 (bl_drew (below_alloc _)), cell_below e4 (bl_drew (below_alloc _))⟩) (first | (go_at_call 66; refine (HS.out _ _ ((Blk.new _ _ _).kept (below_drew1 _))).mono ?_; rintro e w1 ⟨rfl, hbx⟩; replace e0 := cell_below e0 (below_trans (by first | exact Below.refl _ _ | exact below_drew1 _ | exact below_drewN _ _ | exact bl_drew (below_alloc _)) hbx); replace e1 := cell_below e1 (below_trans (by first | exact Below.refl _ _ | exact below_drew1 _ | exact below_drewN _ _ | exact bl_drew (below_alloc _)) hbx); replace e2 := cell_below e2 (below_trans (by first | exact Below.refl _ _ | exact below_drew1 _ | exact below_drewN _ _ | exact bl_drew (below_alloc _)) hbx); replace e3 := cell_below e3 (below_trans (by first | exact Below.refl _ _ | exact below_drew1 _ | exact below_drewN _ _ | exact bl_drew (below_alloc _)) hbx); replace e4 := cell_below e4 (below_trans (by first | exact Below.refl _ _ | exact below_drew1 _ | exact below_drewN _ _ | exact bl_drew (below_alloc _)) hbx); replace HB := hid (below_trans HB.out (below_trans (by first | exact Below.refl _ _ | exact below_drew1 _ | exact below_drewN _ _ | exact bl_drew (below_alloc _)) hbx)); clear hbx) | (go_at_call 68; refine (HE.out _ (below_trans HB.out (by first | exact Below.refl _ _ | exact below_drew1 _ | exact below_drewN _ _))).mono ?_; rintro e w2 ⟨rfl, hbx⟩; replace e0 := cell_below e0 (below_trans (by first | exact Below.refl _ _ | exact below_drew1 _ | exact below_drewN _ _ | exact bl_drew (below_alloc _)) hbx); replace e1 := cell_below e1 (below_trans (by first | exact Below.refl _ _ | exact below_drew1 _ | exact below_drewN _ _ | exact bl_drew (below_alloc _)) hbx); replace e2 := cell_below e2 (below_trans (by first | exact Below.refl _ _ | exact below_drew1 _ | exact below_drewN _ _ | exact bl_drew (below_alloc _)) hbx); replace e3 := cell_below e3 (below_trans (by first | exact Below.refl _ _ | exact below_drew1 _ | exact below_drewN _ _ | exact bl_drew (below_alloc _)) hbx); replace e4 := cell_below e4 (below_trans (by first | exact Below.refl _ _ | exact below_drew1 _ | exact below_drewN _ _ | exact bl_drew (below_alloc _)) hbx); replace HB := hid (below_trans HB.out (below_trans (by first | exact Below.refl _ _ | exact below_drew1 _ | exact below_drewN _ _ | exact bl_drew (below_alloc _)) hbx)); clear hbx))
  all_goals
    go_wp2
    go_ret
    exact ⟨rfl, HB.out⟩
end Go.Proofs.YtidljnkalaklmaaDoor
