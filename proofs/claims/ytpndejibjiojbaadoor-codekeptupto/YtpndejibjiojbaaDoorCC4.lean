/-
  code: steps behind bytes.
  code: the first numbers, behind bytes that are not one's own yet.
  code: a program's bytes.
  code: what is written into a builder that lies behind the operations, in one block.
-/
import Derived.Test.YtpndejibjiojbaaDoorCw8G
import Derived.Test.YtpndejibjiojbaaDoorCVP2
import Derived.Lib.SlBytesConst
import Derived.Shelf.Strings.Builder1
namespace Go.Proofs.YtpndejibjiojbaaDoor
open Go.RowKit
set_option maxRecDepth 1000000
set_option linter.unusedVariables false
set_option linter.unusedSimpArgs false
set_option maxHeartbeats 2000000
theorem own_neB {w : World} {base : Nat} {v : Value} {xs : List Int} (h : OwnB w base v xs) {q : Nat} {t : TypeId} {cs : Array Value} (hB : Blk w q t cs) (ht : t ≠ 5) : v.ownBlock ≠ some q := fun hk => by
  obtain ⟨_, _, cur, h3⟩ := own_type h hk
  rw [show w.heap[q]? = _ from hB] at h3
  cases h3
  exact ht rfl
theorem grow_blkB {w w' : World} {base : Nat} {v v' : Value} {xs : List Int} (g : Grow w w' v v') (h : OwnB w base v xs) {q : Nat} {t : TypeId} {cs : Array Value} (hB : Blk w q t cs) (ht : t ≠ 5) : Blk w' q t cs := (g.block q hB.lt (own_neB h hB ht)).trans hB
theorem OwnB.kept {w w' : World} {base : Nat} {v : Value} {xs : List Int} (h : OwnB w base v xs) (g : Below w.heap.size w w') : OwnB w' base v xs := own_kept h g
/-- How many numbers an operation names. -/
def opC (n : Int) : Nat := opCt[(n - 1).toNat]?.getD 0
/-- A step's bytes. -/
def st1 (s : IN) : List Int := s.op :: nvB ((insN s).take (opC s.op))
def stB (l : List IN) : List Int := l.flatMap st1
/-- A step that can be written. -/
structure InW (s : IN) : Prop where
  op : 1 ≤ s.op ∧ s.op ≤ 25
  n : ∀ x ∈ insN s, 0 ≤ x ∧ x ≤ 9223372036854775807
theorem opC_le (n : Int) : opC n ≤ 4 := by
  unfold opC
  have : ∀ x ∈ opCt, x ≤ 4 := by decide
  cases h : opCt[(n - 1).toNat]? with
  | none => simp
  | some x => exact this x (List.mem_of_getElem? h)
theorem st1_len (s : IN) : (st1 s).length ≤ 41 := by
  have h1 := nvB_len ((insN s).take (opC s.op))
  have h2 : ((insN s).take (opC s.op)).length ≤ 4 := by rw [List.length_take]; simp [insN]; omega
  unfold st1
  rw [List.length_cons]
  omega
theorem stB_len (l : List IN) : (stB l).length ≤ 41 * l.length := by
  induction l with
  | nil => exact Nat.le_refl _
  | cons s l ih =>
    have := st1_len s
    unfold stB at ih ⊢
    rw [List.flatMap_cons, List.length_append, List.length_cons]
    omega
theorem stB_snoc (l : List IN) (j : Nat) (h : j < l.length) : stB (l.take (j + 1)) = stB (l.take j) ++ st1 l[j] := by
  unfold stB
  rw [List.take_add_one, List.getElem?_eq_getElem h, List.flatMap_append]
  simp
theorem oneReads {w : World} {b : Nat} {x : Int} (h : Blk w b 5 #[.int .u8 x]) (hx : 0 ≤ x ∧ x ≤ 255) : W.Reads w (some ⟨b, 0, none⟩) 1 1 [x] := by
  refine ⟨rfl, Nat.le_refl _, by decide, fun i => ?_, .inr ⟨b, 0, rfl, fun i hi => ?_⟩⟩
  · cases i with
    | zero => exact hx
    | succ i => simp
  · obtain rfl : i = 0 := by omega
    rw [h.cellF]
    rfl
theorem arr4_row {w : World} {b : Nat} {t : TypeId} (s : IN) (c : Nat) (hc : c ≤ 4) (B : Blk w b t #[.int .i64 s.a, .int .i64 s.b, .int .i64 s.c, .int .i64 s.d]) : RowS w (· = b) 1 (.slice (some ⟨b, 0, none⟩) ((insN s).take c).length 4) ((insN s).take c).length (((insN s).take c).flatMap cI64) := by
  have e : ((insN s).take c).length = c := by rw [List.length_take]; simp [insN]; omega
  have x := B.cellF
  refine ⟨_, 4, rfl, by rw [flatM_len (g := cI64) (fun _ => rfl)], by omega, by decide, .inr ⟨b, 0, rfl, rfl, fun j u hu => ?_⟩⟩
  have hj : j < c := by
    have h2 := (List.getElem?_eq_some_iff.1 hu).1
    rw [flatM_len (g := cI64) (fun _ => rfl), e, Nat.mul_one] at h2
    exact h2
  have e2 : ((insN s).take c).flatMap cI64 = ([Value.int .i64 s.a, Value.int .i64 s.b, Value.int .i64 s.c, Value.int .i64 s.d]).take c := by
    unfold insN
    match c, hc with
    | 0, _ => rfl
    | 1, _ => rfl
    | 2, _ => rfl
    | 3, _ => rfl
    | 4, _ => rfl
  rw [e2, List.getElem?_take, if_pos hj] at hu
  rw [Nat.zero_add, x]
  simpa using hu
theorem addStepsT (w : World) (p base : Nat) (v : Value) (xs : List Int) (hp : Blk w p 58 opAll.toArray) (ho : OwnB w base v xs) (hb : base ≤ w.heap.size) (l : List IN) (la : Option Addr) (lc : Nat) (Z : Nat → Prop) (hz : ∀ b, Z b → v.ownBlock ≠ some b) (hr : RowS w Z 5 (.slice la l.length lc) l.length (l.flatMap cIN)) (hn : ∀ s ∈ l, InW s) (hl : xs.length + 41 * l.length ≤ 140737488355328) :
    Calls Tryd.prog 21 #[.pointer (some ⟨p, 0, none⟩), v, .slice la l.length lc] w (AddA w base v (xs ++ stB l)) := by
  obtain ⟨_, _, e, hln⟩ := rowS_sl hr
  clear e
  have n63 : (l.length : Int) ≤ 9223372036854775807 := by omega
  have HR := hid hr
  have HZ := hid hz
  have HN := hid hn
  have HL := hid hl
  have HO := hid ho
  have HB := hid hb
  have HP := hid hp
  clear hr hz hn hl ho hb hp
  go_enter Tryd.func21, Tryd.ntmps21
  go_wp2
  go_loopw [1, 13] (fun s1 s13 wr => ∃ j : Nat, s13 = .int .i64 (j : Int) ∧ j ≤ l.length ∧ Hid (OwnB wr base s1 (xs ++ stB (l.take j))) ∧ Hid (Grow w wr v s1)) (fun s1 s13 wr => l.length - numAt wr s13)
  case atStart => exact ⟨0, rfl, by omega, hid (by simpa [stB] using HO.out), hid (Grow.refl _ _)⟩
  case round =>
    obtain ⟨j, rfl, hj, HV, HG⟩ := hrel
    by_cases hlt : j < l.length
    · have h2 : (j : Int) < (l.length : Int) := by omega
      have HRW := hid (rowApart HR.out HZ.out HG.out)
      obtain ⟨g4, go4, eg, hc⟩ := rowAt (g := cIN) (fun _ => rfl) HRW.out (i := j) (x := l[j]) (by simp [hlt])
      subst eg
      have c0 := hc 0 _ rfl
      have c1 := hc 1 _ rfl
      have c2 := hc 2 _ rfl
      have c3 := hc 3 _ rfl
      have c4 := hc 4 _ rfl
      clear hc
      simp only [Nat.add_zero] at c0
      have hgb : g4 < wr.heap.size := World.block_lt_of_cell? _ _ c0
      have HX := hid (HN.out l[j] (List.getElem_mem hlt))
      have HS := hid (stB_snoc l j hlt)
      have HLN : Hid ((xs ++ stB (l.take j)).length + 1 + 40 ≤ 140737488355328) := hid (by
        have h1 := stB_len (l.take j)
        have h3 := HL.out
        rw [List.length_append]
        rw [List.length_take] at h1
        omega)
      generalize l[j] = s at *
      obtain ⟨n, a, b, c, d⟩ := s
      obtain ⟨k, hk, hk25⟩ : ∃ k : Nat, n = (k : Int) + 1 ∧ k < 25 := ⟨(n - 1).toNat, by have := HX.out.op; dsimp only at this; omega⟩
      subst hk
      dsimp only at c0 c1 c2 c3 c4
      have HPW := hid (grow_blkB HG.out HO.out HP.out (by decide))
      have HNU := hid fun W0 (hW : Below wr.heap.size wr W0) => numberedT W0 p ((k : Int) + 1) (HPW.out.kept hW)
      rw [numV_yes k hk25] at HNU
      have HCT : Hid (opC ((k : Int) + 1) = opCt[k]?.getD 0) := hid (by unfold opC; congr 2; omega)
      have HC4 := hid (opC_le ((k : Int) + 1))
      rw [HCT.out] at HC4
      have HST : Hid (st1 ⟨(k : Int) + 1, a, b, c, d⟩ = [(k : Int) + 1] ++ nvB ((insN ⟨(k : Int) + 1, a, b, c, d⟩).take (opCt[k]?.getD 0))) := hid (by unfold st1; rw [HCT.out]; rfl)
      have hbt : IntKind.u8.wrap ((k : Int) + 1) = (k : Int) + 1 := by
        simp [IntKind.wrap, IntKind.bits, IntKind.signed]
        omega
      clear HCT
      generalize strOfNums (opNm[k]?.getD []) = sv at *
      generalize opCt[k]?.getD 0 = ct at *
      go_upto_region 4 with fail
      have B8 : Hid (Blk (wr.alloc (.cells #[.int .i64 ((k : Int) + 1), .int .i64 a, .int .i64 b, .int .i64 c, .int .i64 d] 37)) wr.heap.size 37 #[.int .i64 ((k : Int) + 1), .int .i64 a, .int .i64 b, .int .i64 c, .int .i64 d]) := hid (Blk.new _ _ _)
      go_wp2_with fail
      refine (HNU.out _ (below_alloc _)).mono ?_
      rintro e w1 ⟨rfl, hb1⟩
      go_upto_region 5 with fail
      have B8' : Hid (Blk (w1.alloc (.cells #[.int .i64 ((k : Int) + 1), .string sv, .int .i64 (ct : Int)] 56)) wr.heap.size 37 #[.int .i64 ((k : Int) + 1), .int .i64 a, .int .i64 b, .int .i64 c, .int .i64 d]) := hid ((B8.out.kept hb1).kept (below_alloc _))
      have B9 : Hid (Blk (w1.alloc (.cells #[.int .i64 ((k : Int) + 1), .string sv, .int .i64 (ct : Int)] 56)) w1.heap.size 56 #[.int .i64 ((k : Int) + 1), .string sv, .int .i64 (ct : Int)]) := hid (Blk.new _ _ _)
      have HV1 : Hid (OwnB (w1.alloc (.cells #[.int .i64 ((k : Int) + 1), .string sv, .int .i64 (ct : Int)] 56)) base u1 (xs ++ stB (l.take j))) := hid (((HV.out.kept (below_alloc _)).kept hb1).kept (below_alloc _))
      have HG1 : Hid (Grow w (w1.alloc (.cells #[.int .i64 ((k : Int) + 1), .string sv, .int .i64 (ct : Int)] 56)) v u1) := hid (HG.out.trans (Grow.ofBelow (bl_alloc (bl_then (below_alloc _) hb1) _)))
      clear B8 HNU HPW HV HG hb1 c0 c1 c2 c3 c4 HRW
      have q8 : wr.heap.size < (w1.alloc (.cells #[.int .i64 ((k : Int) + 1), .string sv, .int .i64 (ct : Int)] 56)).heap.size := B8'.out.lt
      have q9 : w1.heap.size < (w1.alloc (.cells #[.int .i64 ((k : Int) + 1), .string sv, .int .i64 (ct : Int)] 56)).heap.size := B9.out.lt
      generalize w1.alloc (.cells #[.int .i64 ((k : Int) + 1), .string sv, .int .i64 (ct : Int)] 56) = U at *
      generalize wr.heap.size = p8 at *
      generalize w1.heap.size = p9 at *
      refine wp_region_held_drew (S := (fun W0 => (∀ k_1, W0.cell? ⟨p8, k_1, none⟩ = #[.int .i64 ((k : Int) + 1), .int .i64 a, .int .i64 b, .int .i64 c, .int .i64 d][k_1]?) ∧ (∀ k_1, W0.cell? ⟨p9, k_1, none⟩ = #[.int .i64 ((k : Int) + 1), .string sv, .int .i64 (ct : Int)][k_1]?))) (by kernel_rfl) ?_ (fun hHeld => ?_)
      · exact ⟨(B8'.out.kept (below_drew1 _)).cellF, (B9.out.kept (below_drew1 _)).cellF⟩
      refine wpAnyH_take (i := 0) (v := ?_) rfl (by kernel_rfl) (by kernel_rfl) (by kernel_rfl) (fun _ _ _ h => h) (Or.inl ⟨by rfl, ?_⟩) (by assumption) ?_
      rotate_left
      · (intro w hSw; (try dsimp only at hSw); go_simp; (try with_reducible rfl))
      try simp only [Act.put, List.getElem_toArray, List.getElem_cons_succ, List.getElem_cons_zero, List.setIfInBounds_toArray, List.set_cons_zero, List.set_cons_succ]
      refine wpAnyH_take (i := 1) (v := ?_) rfl (by kernel_rfl) (by kernel_rfl) (by kernel_rfl) (fun _ _ _ h => h) (Or.inl ⟨by rfl, ?_⟩) (by assumption) ?_
      rotate_left
      · (intro w hSw; (try dsimp only at hSw); go_simp; (try with_reducible rfl))
      try simp only [Act.put, List.getElem_toArray, List.getElem_cons_succ, List.getElem_cons_zero, List.setIfInBounds_toArray, List.set_cons_zero, List.set_cons_succ]
      refine wpAnyH_take (i := 2) (v := ?_) rfl (by kernel_rfl) (by kernel_rfl) (by kernel_rfl) (fun _ _ _ h => h) (Or.inl ⟨by rfl, ?_⟩) (by assumption) ?_
      rotate_left
      · (intro w hSw; (try dsimp only at hSw); go_simp; (try with_reducible rfl))
      try simp only [Act.put, List.getElem_toArray, List.getElem_cons_succ, List.getElem_cons_zero, List.setIfInBounds_toArray, List.set_cons_zero, List.set_cons_succ]
      refine wpAnyH_take (i := 3) (v := ?_) rfl (by kernel_rfl) (by kernel_rfl) (by kernel_rfl) (fun _ _ _ h => h) (Or.inl ⟨by rfl, ?_⟩) (by assumption) ?_
      rotate_left
      · (intro w hSw; (try dsimp only at hSw); go_simp; (try with_reducible rfl))
      try simp only [Act.put, List.getElem_toArray, List.getElem_cons_succ, List.getElem_cons_zero, List.setIfInBounds_toArray, List.set_cons_zero, List.set_cons_succ]
      refine wpAnyH_take (i := 6) (v := ?_) rfl (by kernel_rfl) (by kernel_rfl) (by kernel_rfl) (fun _ _ _ h => h) (Or.inl ⟨by rfl, ?_⟩) (by assumption) ?_
      rotate_left
      · (intro w hSw; (try dsimp only at hSw); go_simp; (try with_reducible rfl))
      try simp only [Act.put, List.getElem_toArray, List.getElem_cons_succ, List.getElem_cons_zero, List.setIfInBounds_toArray, List.set_cons_zero, List.set_cons_succ]
      refine wpAnyH_take (i := 7) (v := ?_) rfl (by kernel_rfl) (by kernel_rfl) (by kernel_rfl) (fun _ _ _ h => h) (Or.inl ⟨by rfl, ?_⟩) (by assumption) ?_
      rotate_left
      · (intro w hSw; (try dsimp only at hSw); go_simp; (try with_reducible rfl))
      try simp only [Act.put, List.getElem_toArray, List.getElem_cons_succ, List.getElem_cons_zero, List.setIfInBounds_toArray, List.set_cons_zero, List.set_cons_succ]
      refine wpAnyH_ready (rs := [4]) (by kernel_rfl) (by simp) ?_
      refine AllReadyH.cons rfl (fun K hK => ?_) ?_
      · go_simp
        refine hK.out _ _ ?_ (fun hHeld => ?_)
        · exact ⟨((B8'.out.kept (below_drew1 _)).kept (below_alloc _)).cellF, ((B9.out.kept (below_drew1 _)).kept (below_alloc _)).cellF⟩
        clear hK K
        try simp only [Act.put, List.getElem_toArray, List.getElem_cons_succ, List.getElem_cons_zero, List.setIfInBounds_toArray, List.set_cons_zero, List.set_cons_succ]
        have B8a : Hid (Blk (U.alloc (.cells #[.int .u8 ((k : Int) + 1)] 5)).drew p8 37 #[.int .i64 ((k : Int) + 1), .int .i64 a, .int .i64 b, .int .i64 c, .int .i64 d]) := hid ((B8'.out.kept (below_alloc _)).kept (below_drew1 _))
        have B9a : Hid (Blk (U.alloc (.cells #[.int .u8 ((k : Int) + 1)] 5)).drew p9 56 #[.int .i64 ((k : Int) + 1), .string sv, .int .i64 (ct : Int)]) := hid ((B9.out.kept (below_alloc _)).kept (below_drew1 _))
        have HOa : Hid (OwnB (U.alloc (.cells #[.int .u8 ((k : Int) + 1)] 5)).drew base u1 (xs ++ stB (l.take j))) := hid ((HV1.out.kept (below_alloc _)).kept (below_drew1 _))
        obtain ⟨v', w2, HRUN, HV2, HG2⟩ := addBytes base u1 _ _ (some ⟨U.heap.size, 0, none⟩) 1 1 [(k : Int) + 1] HOa.out (by have := HB.out; have := HG1.out.size; simp [World.drew]; omega) (oneReads ((Blk.new U 5 #[.int .u8 ((k : Int) + 1)]).kept (below_drew1 _)) (by omega)) (by have := HLN.out; simp only [List.length_singleton]; omega)
        have B8b := hid (grow_blkB HG2.out HOa.out B8a.out (by decide))
        have B9b := hid (grow_blkB HG2.out HOa.out B9a.out (by decide))
        have HG3 : Hid (Grow w w2 v v') := hid (HG1.out.trans ((Grow.ofBelow (bl_drew (below_alloc _))).trans HG2.out))
        refine wpAnyH_ready (rs := [5]) (by kernel_rfl) (by simp) ?_
        refine AllReadyH.cons rfl (fun K hK => ?_) ?_
        · refine step_append_ran rfl (.tmp 24) (.tmp 28) 25 25 rfl rfl u1 (.slice (some ⟨U.heap.size, 0, none⟩) 1 1) v' w2 rfl rfl HRUN.out ?_
          refine hK.out _ _ ?_ (fun hHeld => ?_)
          · exact ⟨B8b.out.cellF, B9b.out.cellF⟩
          clear hK K
          try simp only [Act.put, List.getElem_toArray, List.getElem_cons_succ, List.getElem_cons_zero, List.setIfInBounds_toArray, List.set_cons_zero, List.set_cons_succ]
          clear B8a B9a HOa HRUN HG2 HG1 HV1 B8' B9
          refine wpAnyH_ready (rs := [8]) (by kernel_rfl) (by simp) ?_
          refine AllReadyH.cons rfl (fun K hK => ?_) ?_
          · have HNB := hid (numbersT w2 (.int .i64 ((k : Int) + 1)) (.string sv) ct HC4.out ⟨(k : Int) + 1, a, b, c, d⟩)
            unfold vIN at HNB
            go_simp
            refine HNB.out.mono ?_
            rintro e w3 ⟨nb, rfl, hnb, hnz, hb3⟩
            dsimp only
            have HV3 := hid (HV2.out.kept hb3)
            have HNR := hid (arr4_row ⟨(k : Int) + 1, a, b, c, d⟩ ct HC4.out hnb)
            have HNE := hid (own_neB HV3.out hnb (by decide))
            have HLE : Hid (((insN ⟨(k : Int) + 1, a, b, c, d⟩).take ct).length = ct) := hid (by rw [List.length_take]; have := HC4.out; simp [insN]; omega)
            have HAN := hid (addNumbersT w3 base v' _ HV3.out (by have := HB.out; have := HG3.out.size; have := hb3.size; omega) _ _ _ _ (fun b' hb' => by rw [hb']; exact HNE.out) HNR.out (fun n hn => HX.out.n n (List.mem_of_mem_take hn)) (by have := HLN.out; have := HLE.out; have := HC4.out; rw [List.length_append, List.length_singleton]; omega))
            rw [HLE.out] at HAN
            have B8c := hid (B8b.out.kept hb3)
            have B9c := hid (B9b.out.kept hb3)
            replace HG3 : Hid (Grow w w3 v v') := hid (HG3.out.trans (Grow.ofBelow hb3))
            clear hnb hnz hb3 HNB B8b B9b HV2 HNR HNE HLE
            try simp only [Act.put, List.getElem_toArray, List.getElem_cons_succ, List.getElem_cons_zero, List.setIfInBounds_toArray, List.set_cons_zero, List.set_cons_succ]
            refine hK.out _ _ ?_ (fun hHeld => ?_)
            · exact ⟨B8c.out.cellF, B9c.out.cellF⟩
            clear hK K
            try simp only [Act.put, List.getElem_toArray, List.getElem_cons_succ, List.getElem_cons_zero, List.setIfInBounds_toArray, List.set_cons_zero, List.set_cons_succ]
            refine wpAnyH_ready (rs := [9]) (by kernel_rfl) (by simp) ?_
            refine AllReadyH.cons rfl (fun K hK => ?_) ?_
            · go_simp
              refine HAN.out.mono ?_
              rintro e w4 ⟨v4, rfl, hv4, hg4⟩
              dsimp only
              have HV4 : Hid (OwnB w4 base v4 (xs ++ stB (l.take (j + 1)))) := hid (by rw [HS.out, HST.out, ← List.append_assoc, ← List.append_assoc]; exact hv4)
              have HG4 : Hid (Grow w w4 v v4) := hid (HG3.out.trans hg4)
              have B8d := hid (grow_blkB hg4 HV3.out B8c.out (by decide))
              have B9d := hid (grow_blkB hg4 HV3.out B9c.out (by decide))
              clear hv4 hg4 HG3 HV3 HAN B8c B9c
              try simp only [Act.put, List.getElem_toArray, List.getElem_cons_succ, List.getElem_cons_zero, List.setIfInBounds_toArray, List.set_cons_zero, List.set_cons_succ]
              refine hK.out _ _ ?_ (fun hHeld => ?_)
              · exact ⟨B8d.out.cellF, B9d.out.cellF⟩
              clear hK K
              try simp only [Act.put, List.getElem_toArray, List.getElem_cons_succ, List.getElem_cons_zero, List.setIfInBounds_toArray, List.set_cons_zero, List.set_cons_succ]
              refine wpAnyH_take (i := 10) (v := ?_) rfl (by kernel_rfl) (by kernel_rfl) (by kernel_rfl) (fun _ _ _ h => h) (Or.inl ⟨by rfl, ?_⟩) (by assumption) ?_
              rotate_left
              · (intro w hSw; (try dsimp only at hSw); go_simp; (try with_reducible rfl))
              try simp only [Act.put, List.getElem_toArray, List.getElem_cons_succ, List.getElem_cons_zero, List.setIfInBounds_toArray, List.set_cons_zero, List.set_cons_succ]
              refine wpAnyH_done (by kernel_rfl) ?_ _
              go_wp2
              exact ⟨⟨j + 1, by simp, by omega, HV4, HG4⟩, by simp [numAt]; omega⟩
            exact AllReadyH.nil
          exact AllReadyH.nil
        exact AllReadyH.nil
      exact AllReadyH.nil
    · have h2 : ¬ (j : Int) < (l.length : Int) := by omega
      obtain rfl : j = l.length := by omega
      go_wp2
      go_ret
      exact ⟨_, rfl, by simpa using HV.out, HG.out⟩
set_option maxHeartbeats 1000000
theorem Tryd.info5c : (Tryd.prog.info? 5).map (fun i => (i.zero, i.size, i.bytes)) = some (some (.int .u8 0), 1, 1) := by kernel_rfl
theorem addFull (base : Nat) (g : Nat) (xs : List Int) (w : World) (a : Option Addr) (len cap : Nat) (ys : List Int) (ho : ∀ j u, (xs.map (Value.int .u8))[j]? = some u → w.cell? ⟨g, j, none⟩ = some u) (hb : base ≤ w.heap.size) (hr : W.Reads w a len cap ys) (h0 : 0 < ys.length) (hn : xs.length + ys.length ≤ 140737488355328) : ∃ v' w', Hid ((Builtin.append_ #[25, 25] 25 #[.slice (some ⟨g, 0, none⟩) xs.length xs.length, .slice a len cap]).run Tryd.prog w = .ok v' w') ∧ Hid (OwnB w' base v' (xs ++ ys)) ∧ Hid (Below w.heap.size w w') := by
  obtain ⟨i0, hi, hz0, hz1, hz2⟩ := info_parts Tryd.info5c
  have e := hr.length
  cases a with
  | none =>
    obtain ⟨rfl, rfl, rfl⟩ := W.reads_none hr
    simp at h0
  | some x =>
    have hadd : ∀ j, (⟨g, 0, none⟩ : Addr).add j = ⟨g, j, none⟩ := fun j => by unfold Addr.add; split <;> simp_all
    have hrun := run_append_grow (P := Tryd.prog) w 25 25 5 i0 (.int .u8 0) Tryd.underlying25 hi hz0 ⟨g, 0, none⟩ xs.length xs.length (xs.map (Value.int .u8)) (by rw [List.length_map, hz1, Nat.mul_one]) (fun j u hu => by rw [hadd]; exact ho j u hu) x len cap (ys.map (Value.int .u8)) (by rw [List.length_map, e, hz1, Nat.mul_one]) (W.reads_src hr) (by omega) (by omega) (growslice_fits (by omega) (by rw [hz2, Nat.mul_one]; omega))
    have hge := grownCap_ge w (xs.length + len) xs.length 5
    have hcm : grownCap w (xs.length + len) xs.length 5 ≤ maxLen := grownCap_le_maxLen w (xs.length + len) xs.length 5 (by unfold maxLen; omega)
    refine ⟨_, _, hid hrun, hid ?_, hid ?_⟩
    · unfold OwnB
      rw [List.length_append, e]
      refine ⟨by rw [List.length_map, List.length_append, e, Nat.mul_one], .inr ⟨w.heap.size, _, _, rfl, hb, heap_alloc_new w.drew _, hge, hcm, ?_, ?_⟩⟩
      · simp only [Array.size_append, List.size_toArray, size_zeroCells, List.length_map, e, Nat.mul_one]
        show xs.length + len + _ * 1 = _
        omega
      · simp only [Array.toList_append, List.append_assoc, List.map_append, Nat.mul_one]
        rw [← List.append_assoc, List.take_left']
        rw [List.length_append, List.length_map, List.length_map, e]
    · exact bl_alloc (below_drew1 _) _
theorem addFirstT (w : World) (base g : Nat) (hb : base ≤ w.heap.size) (h0 : w.cell? ⟨g, 0, none⟩ = some (.int .u8 67)) (h1 : w.cell? ⟨g, 1, none⟩ = some (.int .u8 84)) (n : Int) (hn : 0 ≤ n ∧ n ≤ 9223372036854775807) (b : Nat) (hB : Blk w b 3 #[.int .i64 n]) :
    Calls Tryd.prog 20 #[.slice (some ⟨g, 0, none⟩) 2 2, .slice (some ⟨b, 0, none⟩) 1 1] w fun e w' => ∃ v', e = .returned v' ∧ OwnB w' base v' ([67, 84] ++ nvB [n]) ∧ Below w.heap.size w w' := by
  have x := hB.cellF
  have z := hB.lt
  have hw : IntKind.u64.wrap n = n := by
    simp [IntKind.wrap, IntKind.bits, IntKind.signed]
    omega
  have HP := hid fun W0 => W.putvWr n W0 hn.1 (by omega)
  have HPL := hid (W.pv_len n)
  have HC : Hid (∀ W0, Below w.heap.size w W0 → ∀ j u, (([67, 84] : List Int).map (Value.int .u8))[j]? = some u → W0.cell? ⟨g, j, none⟩ = some u) := hid (fun W0 hW j u hu => by
    match j, hu with
    | 0, hu => cases hu; exact cell_below h0 hW
    | 1, hu => cases hu; exact cell_below h1 hW)
  have HB := hid hb
  clear h0 h1 hb hB
  go_enter Tryd.func20, Tryd.ntmps20
  go_wp2
  go_loopw [0, 9] (fun s0 s9 wr => (s9 = .int .i64 0 ∧ s0 = .slice (some ⟨g, 0, none⟩) 2 2 ∧ wr = w) ∨ (s9 = .int .i64 1 ∧ Hid (OwnB wr base s0 ([67, 84] ++ nvB [n])) ∧ Hid (Below w.heap.size w wr))) (fun s0 s9 wr => 1 - numAt wr s9)
  case atStart => exact .inl ⟨rfl, rfl, rfl⟩
  case round =>
    rcases hrel with ⟨rfl, rfl, rfl⟩ | ⟨rfl, HV, hb⟩
    · go_wp2_with fail
      refine (HP.out _).mono ?_
      rintro e w1 ⟨a, cap, rfl, hrd, hb1⟩
      obtain ⟨v', w2, HRUN, HV2, HB2⟩ := addFull base g [67, 84] w1 a _ cap (W.pv n) (HC.out _ hb1) (by have := HB.out; have := hb1.size; omega) hrd (by have := HPL.out.1; omega) (by have := HPL.out.2; simp only [List.length_cons, List.length_nil]; omega)
      replace HV2 : Hid (OwnB w2 base v' ([67, 84] ++ nvB [n])) := hid (by
        have e : nvB [n] = W.pv n := by unfold nvB; simp
        rw [e]
        exact HV2.out)
      replace HB2 := hid (bl_then hb1 HB2.out)
      simp only [List.length_cons, List.length_nil, Nat.zero_add, Nat.reduceAdd] at HRUN
      clear hb1 hrd HP HPL HC
      generalize (W.pv n).length = q at *
      go_wp2_with (first | (at_builtin; refine wpList_append_ran rfl (.tmp 13) (.tmp 16) 25 25 rfl rfl (.slice (some ⟨g, 0, none⟩) 2 2) (.slice a q cap) v' w2 rfl rfl HRUN.out ?_))
      exact ⟨.inr ⟨by simp, HV2, HB2⟩, by simp [numAt]⟩
    · go_wp2
      go_ret
      exact ⟨_, rfl, HV.out, hb.out⟩
set_option maxHeartbeats 2000000
def rw1 (r : LN) : List Int := nvB [r.tag, r.pl]
def rwB (l : List LN) : List Int := l.flatMap rw1
/-- A block's bytes. -/
def bkB (k : BK) : List Int := nvB [(k.dec.length : Int), (k.enc.length : Int), (k.rows.length : Int)] ++ stB k.dec ++ stB k.enc ++ rwB k.rows
/-- A program's bytes. -/
def pgB (bs : List BV) : List Int := [67, 84] ++ nvB [(bs.length : Int)] ++ bs.flatMap (fun x => bkB x.k)
/-- How many there may be. -/
def bkN (k : BK) : Nat := 30 + 41 * (k.dec.length + k.enc.length) + 20 * k.rows.length
def pgN : List BV → Nat
  | [] => 12
  | x :: l => bkN x.k + pgN l
/-- What can be written. -/
structure BkW (k : BK) : Prop where
  dec : ∀ s ∈ k.dec, InW s
  enc : ∀ s ∈ k.enc, InW s
  rows : ∀ r ∈ k.rows, (0 ≤ r.tag ∧ r.tag ≤ 9223372036854775807) ∧ 0 ≤ r.pl ∧ r.pl ≤ 9223372036854775807
theorem rw1_len (r : LN) : (rw1 r).length ≤ 20 := nvB_len _
theorem rwB_len (l : List LN) : (rwB l).length ≤ 20 * l.length := by
  induction l with
  | nil => exact Nat.le_refl _
  | cons s l ih =>
    have := rw1_len s
    unfold rwB at ih ⊢
    rw [List.flatMap_cons, List.length_append, List.length_cons]
    omega
theorem rwB_snoc (l : List LN) (j : Nat) (h : j < l.length) : rwB (l.take (j + 1)) = rwB (l.take j) ++ rw1 l[j] := by
  unfold rwB
  rw [List.take_add_one, List.getElem?_eq_getElem h, List.flatMap_append]
  simp
theorem bkB_len (k : BK) : (bkB k).length ≤ bkN k := by
  have h1 := nvB_len [(k.dec.length : Int), (k.enc.length : Int), (k.rows.length : Int)]
  have h2 := stB_len k.dec
  have h3 := stB_len k.enc
  have h4 := rwB_len k.rows
  unfold bkB bkN
  rw [List.length_append, List.length_append, List.length_append]
  simp only [List.length_cons, List.length_nil] at h1
  omega
theorem pgN_take : ∀ (bs : List BV) (j : Nat) (h : j < bs.length), (([67, 84] : List Int) ++ nvB [(bs.length : Int)] ++ (bs.take j).flatMap (fun x : BV => bkB x.k)).length + bkN bs[j].k ≤ pgN bs := by
  have key : ∀ (bs : List BV) (j : Nat) (h : j < bs.length), 12 + ((bs.take j).flatMap (fun x : BV => bkB x.k)).length + bkN bs[j].k ≤ pgN bs := by
    intro bs
    induction bs with
    | nil => intro j h; simp at h
    | cons x l ih =>
      intro j h
      cases j with
      | zero =>
        have : ∀ l : List BV, 12 ≤ pgN l := by
          intro l
          induction l with
          | nil => exact Nat.le_refl _
          | cons y l ih => unfold pgN; omega
        have := this l
        simp [pgN]
        omega
      | succ j =>
        have h1 := ih j (by simpa using h)
        have h2 := bkB_len x.k
        simp only [List.take_succ_cons, List.flatMap_cons, List.length_append, List.getElem_cons_succ, pgN]
        omega
  intro bs j h
  have h1 := key bs j h
  have h2 := nvB_len [(bs.length : Int)]
  rw [List.length_append, List.length_append]
  simp only [List.length_cons, List.length_nil] at h2 ⊢
  omega
theorem own_lt {w : World} {base : Nat} {v : Value} {xs : List Int} (h : OwnB w base v xs) {q : Nat} (hq : w.heap.size ≤ q) : v.ownBlock ≠ some q := fun hk => by
  have := (own_type h hk).2.1
  omega
theorem own_lt' {w : World} {base : Nat} {v : Value} {xs : List Int} (h : OwnB w base v xs) {q : Nat} (hq : q < base) : v.ownBlock ≠ some q := fun hk => by
  have := (own_type h hk).1
  omega
theorem growBl {w0 w w' : World} {v v' : Value} {xs : List Int} (hb : Below w0.heap.size w0 w) (h : OwnB w w0.heap.size v xs) (g : Grow w w' v v') : Below w0.heap.size w0 w' := hb.trans (g.below hb.size (fun k hk => (own_type h hk).1))
theorem cellMk (w : World) (cs : Array Value) (t : TypeId) (fz : Nat × Nat) (i : Nat) : (w.alloc (.cells cs t fz)).cell? ⟨w.heap.size, i, none⟩ = cs[i]? := cell_of_row _ _ i cs t fz (heap_alloc_last w _)
theorem rowOldB {w w' : World} {k : Nat} {v : Value} {n : Nat} {fl : List Value} (hk : 0 < k) (h : RowS w AnyZ k v n fl) (hb : Below w.heap.size w w') : RowS w' (· < w.heap.size) k v n fl := RowS.keep (f := fun _ => True) (rowOldP hk h) (Keep.ofBelow hb) (fun _ _ => trivial)
theorem allOps (w : World) : Calls Tryd.prog 19 #[] w fun e w' => ∃ A : Array Value, e = .returned (.agg A) ∧ Hid (A = opAll.toArray) ∧ Below w.heap.size w w' := (allOpsT w).mono fun e w' ⟨h, hb⟩ => ⟨_, h, hid rfl, hb⟩
theorem opStoreA {A : Array Value} (hA : A = opAll.toArray) (w : World) : (storeCells ⟨w.heap.size, 0, none⟩ A.toList 0).run Tryd.prog (w.alloc (.cells Tryd.zeroCells58 58)) = .ok () (w.alloc (.cells A 58)) := by
  rw [hA]
  exact opStore w _ (by simp)
theorem intsRow {w : World} {b : Nat} {t : TypeId} (ns : List Int) (hn : ns.length ≤ 9223372036854775807) (B : Blk w b t (ns.map (Value.int .i64)).toArray) : RowS w (· = b) 1 (.slice (some ⟨b, 0, none⟩) ns.length ns.length) ns.length (ns.flatMap cI64) := by
  have x := B.cellF
  refine ⟨_, ns.length, rfl, by rw [flatM_len (g := cI64) (fun _ => rfl)], Nat.le_refl _, hn, .inr ⟨b, 0, rfl, rfl, fun j u hu => ?_⟩⟩
  have e : ns.flatMap cI64 = ns.map (Value.int .i64) := by
    clear hn B x hu
    induction ns with
    | nil => rfl
    | cons n ns ih => rw [List.flatMap_cons, ih]; rfl
  rw [e] at hu
  rw [Nat.zero_add, x]
  simpa using hu
theorem bytesOfT (w : World) (bs : List BV) (ba : Option Addr) (bc : Nat) (hp : PgR w (.slice ba bs.length bc) bs) (hw : ∀ x ∈ bs, BkW x.k) (hl : pgN bs ≤ 140737488355328) :
    Calls Tryd.prog 11 #[.agg #[.slice ba bs.length bc]] w fun e w' => ∃ v, e = .returned v ∧ OwnB w' w.heap.size v (pgB bs) ∧ Below w.heap.size w w' := by
  obtain ⟨_, _, e, hln⟩ := rowS_sl hp.row
  clear e
  have n63 : (bs.length : Int) ≤ 9223372036854775807 := by omega
  have HP := hid hp
  have HW := hid hw
  have HL := hid hl
  clear hp hw hl
  go_enter Tryd.func11, Tryd.ntmps11
  go_wp2_with fail
  refine (allOps _).mono ?_
  rintro e w1 ⟨A, rfl, HA, hb1⟩
  have HST := hid fun W0 => opStoreA HA.out W0
  have a75 : A.size = 75 := by rw [HA.out]; simp [opAll_len]
  go_wp2_with fail
  rw [HST.out]
  simp only [Result.andThen]
  rw [Oper.upon_skip]
  have B1 : Hid (Blk (w1.alloc (.cells A 58)) w.heap.size 24 #[.slice ba bs.length bc]) := hid (((Blk.newAt rfl).kept hb1).kept (below_alloc _))
  have B3 : Hid (Blk (w1.alloc (.cells A 58)) w1.heap.size 58 opAll.toArray) := hid (by rw [HA.out]; exact Blk.new _ _ _)
  have HB1 : Hid (Below w.heap.size w (w1.alloc (.cells A 58))) := hid (bl_alloc (bl_then (below_alloc _) hb1) _)
  clear HST a75 HA hb1
  generalize w1.alloc (.cells A 58) = U at *
  generalize w1.heap.size = p3 at *
  have x1 := B1.out.cellF
  have z1 := B1.out.lt
  have HCV := hid (Lib.run_convert_bytes_const (P := Tryd.prog) U 25 5 #[.int .u8 67, .int .u8 84] 2 2 Tryd.underlying25 Tryd.underlying5)
  go_wp2_with fail
  rw [HCV.out]
  simp only [Result.andThen]
  rw [Oper.upon_value]
  have B1a : Hid (Blk (U.alloc (.cells #[.int .u8 67, .int .u8 84] 5 (2, 3))) w.heap.size 24 #[.slice ba bs.length bc]) := hid (B1.out.kept (below_alloc _))
  have B3a : Hid (Blk (U.alloc (.cells #[.int .u8 67, .int .u8 84] 5 (2, 3))) p3 58 opAll.toArray) := hid (B3.out.kept (below_alloc _))
  have HB2 : Hid (Below w.heap.size w (U.alloc (.cells #[.int .u8 67, .int .u8 84] 5 (2, 3)))) := hid (bl_alloc HB1.out _)
  have e0 : (U.alloc (.cells #[.int .u8 67, .int .u8 84] 5 (2, 3))).cell? ⟨U.heap.size, 0, none⟩ = some (.int .u8 67) := cellMk U _ _ _ 0
  have e1 : (U.alloc (.cells #[.int .u8 67, .int .u8 84] 5 (2, 3))).cell? ⟨U.heap.size, 1, none⟩ = some (.int .u8 84) := cellMk U _ _ _ 1
  have HE0 := hid e0
  have HE1 := hid e1
  simp only [List.size_toArray, List.length_cons, List.length_nil, Nat.zero_add, Nat.reduceAdd]
  clear HCV B1 B3 HB1 x1 z1 e0 e1
  generalize U.alloc (.cells #[.int .u8 67, .int .u8 84] 5 (2, 3)) = V at *
  generalize U.heap.size = g0 at *
  have x1 := B1a.out.cellF
  have z1 := B1a.out.lt
  go_wp2_with fail
  refine (addFirstT _ w.heap.size g0 (by have := HB2.out.size; simp; omega) (cell_below HE0.out (below_alloc _)) (cell_below HE1.out (below_alloc _)) (bs.length : Int) ⟨by omega, n63⟩ _ (Blk.newAt rfl)).mono ?_
  rintro e w2 ⟨v2, rfl, hv2, hb2⟩
  have B1b : Hid (Blk w2 w.heap.size 24 #[.slice ba bs.length bc]) := hid ((B1a.out.kept (below_alloc _)).kept hb2)
  have B3b : Hid (Blk w2 p3 58 opAll.toArray) := hid ((B3a.out.kept (below_alloc _)).kept hb2)
  have HB3 : Hid (Below w.heap.size w w2) := hid (bl_then (bl_alloc HB2.out _) hb2)
  have HV2 := hid hv2
  clear hv2 hb2 B1a B3a HB2 HE0 HE1 x1 z1
  have x1 := B1b.out.cellF
  have z1 := B1b.out.lt
  go_wp2
  go_loopw [4, 20] (fun s4 s20 wr => ∃ j : Nat, s20 = .int .i64 (j : Int) ∧ j ≤ bs.length ∧ Hid (OwnB wr w.heap.size s4 ([67, 84] ++ nvB [(bs.length : Int)] ++ (bs.take j).flatMap (fun x : BV => bkB x.k))) ∧ Hid (Blk wr p3 58 opAll.toArray) ∧ Hid (Below w.heap.size w wr)) (fun s4 s20 wr => bs.length - numAt wr s20)
  case atStart => exact ⟨0, rfl, by omega, hid (by simpa using HV2.out), B3b, HB3⟩
  case round =>
    obtain ⟨j, rfl, hj, HV, B3, hb⟩ := hrel
    clear B1b B3b HB3 HV2 x1 z1
    by_cases hlt : j < bs.length
    · have h2 : (j : Int) < (bs.length : Int) := by omega
      have HPJ := hid HP.out
      obtain ⟨b, o, da, dc, ea, ec, ra, rc, eb, hbl, c0, c1, c2, hk⟩ := pg_at HP.out hlt
      subst eb
      have HKD := hid fun W0 (hW : Below w.heap.size w W0) => rowOldB (by decide) hk.hd hW
      have HKE := hid fun W0 (hW : Below w.heap.size w W0) => rowOldB (by decide) hk.he hW
      have HKR := hid fun W0 (hW : Below w.heap.size w W0) => rowOldB (by decide) hk.hr hW
      obtain ⟨_, _, e, hdl⟩ := rowS_sl hk.hd
      clear e
      obtain ⟨_, _, e, hel⟩ := rowS_sl hk.he
      clear e
      obtain ⟨_, _, e, hrl⟩ := rowS_sl hk.hr
      clear e
      have HKW := hid (HW.out bs[j] (List.getElem_mem hlt))
      have HLN := hid (Nat.le_trans (pgN_take bs j hlt) HL.out)
      have HTK : Hid ([67, 84] ++ nvB [(bs.length : Int)] ++ (bs.take (j + 1)).flatMap (fun x : BV => bkB x.k) = ([67, 84] ++ nvB [(bs.length : Int)] ++ (bs.take j).flatMap (fun x : BV => bkB x.k)) ++ bkB bs[j].k) := hid (by
        rw [List.take_add_one, List.getElem?_eq_getElem hlt, List.flatMap_append]
        simp)
      replace c0 := cell_below c0 hb.out
      replace c1 := cell_below c1 hb.out
      replace c2 := cell_below c2 hb.out
      have hbl2 : b < wr.heap.size := by have := hb.out.size; omega
      clear hk
      generalize bs[j].k = K at *
      generalize [67, 84] ++ nvB [(bs.length : Int)] ++ (bs.take j).flatMap (fun x : BV => bkB x.k) = X at *
      have d63 : (K.dec.length : Int) ≤ 9223372036854775807 := by omega
      have f63 : (K.enc.length : Int) ≤ 9223372036854775807 := by omega
      have r63 : (K.rows.length : Int) ≤ 9223372036854775807 := by omega
      have HN3 : Hid (∀ n ∈ [(K.dec.length : Int), (K.enc.length : Int), (K.rows.length : Int)], 0 ≤ n ∧ n ≤ 9223372036854775807) := hid (by
        intro n hn
        simp only [List.mem_cons, List.not_mem_nil, or_false] at hn
        omega)
      go_upto_region 6 with fail
      have B6 : Hid (Blk (wr.alloc (.cells #[.slice da K.dec.length dc, .slice ea K.enc.length ec, .slice ra K.rows.length rc] 35)) wr.heap.size 35 #[.slice da K.dec.length dc, .slice ea K.enc.length ec, .slice ra K.rows.length rc]) := hid (Blk.new _ _ _)
      have HVa := hid (HV.out.kept (below_alloc (w := wr) (.cells #[.slice da K.dec.length dc, .slice ea K.enc.length ec, .slice ra K.rows.length rc] 35)))
      have B3a := hid (B3.out.kept (below_alloc (w := wr) (.cells #[.slice da K.dec.length dc, .slice ea K.enc.length ec, .slice ra K.rows.length rc] 35)))
      have hba := hid (bl_alloc hb.out (.cells #[.slice da K.dec.length dc, .slice ea K.enc.length ec, .slice ra K.rows.length rc] 35))
      clear HV B3 hb c0 c1 c2 hbl2
      generalize wr.alloc (.cells #[.slice da K.dec.length dc, .slice ea K.enc.length ec, .slice ra K.rows.length rc] 35) = V at *
      generalize wr.heap.size = p6 at *
      have x6 := B6.out.cellF
      have z6 := B6.out.lt
      have BN : Hid (Blk (V.alloc (.cells #[.int .i64 (K.dec.length : Int), .int .i64 (K.enc.length : Int), .int .i64 (K.rows.length : Int)] 3)) V.heap.size 3 ([(K.dec.length : Int), (K.enc.length : Int), (K.rows.length : Int)].map (Value.int .i64)).toArray) := hid (Blk.new _ _ _)
      have HOv := hid (HVa.out.kept (below_alloc (w := V) (.cells #[.int .i64 (K.dec.length : Int), .int .i64 (K.enc.length : Int), .int .i64 (K.rows.length : Int)] 3)))
      have HA1 := hid (addNumbersT _ w.heap.size u4 X HOv.out (by have := hba.out.size; simp; omega) [(K.dec.length : Int), (K.enc.length : Int), (K.rows.length : Int)] _ _ _ (fun b' hb' => by rw [hb']; exact own_lt HVa.out (Nat.le_refl _)) (intsRow _ (by simp) BN.out) HN3.out (by have := HLN.out; unfold bkN at this; simp only [List.length_cons, List.length_nil]; omega))
      clear BN
      go_wp2_with fail
      refine HA1.out.mono ?_
      rintro e w2 ⟨v2, rfl, hv2, hg2⟩
      have HV2 := hid hv2
      have B6a := hid (grow_blkB hg2 HOv.out (B6.out.kept (below_alloc _)) (by decide))
      have B3b := hid (grow_blkB hg2 HOv.out (B3a.out.kept (below_alloc _)) (by decide))
      have hbb : Hid (Below w.heap.size w w2) := hid (growBl (bl_alloc hba.out _) HOv.out hg2)
      clear hv2 hg2 HA1 HOv HVa B6 B3a hba x6 z6 HN3
      have x6 := B6a.out.cellF
      have z6 := B6a.out.lt
      have HA2 := hid (addStepsT w2 p3 w.heap.size v2 _ B3b.out HV2.out hbb.out.size K.dec da dc _ (fun b' hb' => own_lt' HV2.out hb') (HKD.out _ hbb.out) HKW.out.dec (by have := HLN.out; have h9 := nvB_len [(K.dec.length : Int), (K.enc.length : Int), (K.rows.length : Int)]; unfold bkN at this; simp only [List.length_cons, List.length_nil] at h9; rw [List.length_append]; omega))
      go_wp2_with fail
      refine HA2.out.mono ?_
      rintro e w3 ⟨v3, rfl, hv3, hg3⟩
      have HV3 := hid hv3
      have B6b := hid (grow_blkB hg3 HV2.out B6a.out (by decide))
      have B3c := hid (grow_blkB hg3 HV2.out B3b.out (by decide))
      have hbc : Hid (Below w.heap.size w w3) := hid (growBl hbb.out HV2.out hg3)
      clear hv3 hg3 HA2 HV2 B6a B3b hbb x6 z6
      have x6 := B6b.out.cellF
      have z6 := B6b.out.lt
      have HA3 := hid (addStepsT w3 p3 w.heap.size v3 _ B3c.out HV3.out hbc.out.size K.enc ea ec _ (fun b' hb' => own_lt' HV3.out hb') (HKE.out _ hbc.out) HKW.out.enc (by have := HLN.out; have h9 := nvB_len [(K.dec.length : Int), (K.enc.length : Int), (K.rows.length : Int)]; have h8 := stB_len K.dec; unfold bkN at this; simp only [List.length_cons, List.length_nil] at h9; rw [List.length_append, List.length_append]; omega))
      go_wp2_with fail
      refine HA3.out.mono ?_
      rintro e w4 ⟨v4, rfl, hv4, hg4⟩
      have HV4 := hid hv4
      have B6c := hid (grow_blkB hg4 HV3.out B6b.out (by decide))
      have B3d := hid (grow_blkB hg4 HV3.out B3c.out (by decide))
      have hbd : Hid (Below w.heap.size w w4) := hid (growBl hbc.out HV3.out hg4)
      clear hv4 hg4 HA3 HV3 B6b B3c hbc x6 z6
      have HLX : Hid ((X ++ nvB [(K.dec.length : Int), (K.enc.length : Int), (K.rows.length : Int)] ++ stB K.dec ++ stB K.enc).length + 20 * K.rows.length ≤ 140737488355328) := hid (by
        have := HLN.out
        have h9 := nvB_len [(K.dec.length : Int), (K.enc.length : Int), (K.rows.length : Int)]
        have h8 := stB_len K.dec
        have h7 := stB_len K.enc
        unfold bkN at this
        simp only [List.length_cons, List.length_nil] at h9
        rw [List.length_append, List.length_append, List.length_append]
        omega)
      have HTE : Hid (∀ Y, X ++ nvB [(K.dec.length : Int), (K.enc.length : Int), (K.rows.length : Int)] ++ stB K.dec ++ stB K.enc ++ rwB K.rows = Y → Y = X ++ bkB K) := hid (fun Y hY => by rw [← hY]; unfold bkB; simp only [List.append_assoc])
      generalize X ++ nvB [(K.dec.length : Int), (K.enc.length : Int), (K.rows.length : Int)] ++ stB K.dec ++ stB K.enc = Y at *
      have x6 := B6c.out.cellF
      have z6 := B6c.out.lt
      go_wp2
      go_loopw [4, 47] (fun s4 s47 wq => ∃ i : Nat, s47 = .int .i64 (i : Int) ∧ i ≤ K.rows.length ∧ Hid (OwnB wq w.heap.size s4 (Y ++ rwB (K.rows.take i))) ∧ Hid (Blk wq p3 58 opAll.toArray) ∧ Hid (Below w.heap.size w wq)) (fun s4 s47 wq => K.rows.length - numAt wq s47)
      case atStart => exact ⟨0, rfl, by omega, hid (by simpa [rwB] using HV4.out), B3d, hbd⟩
      case round =>
        obtain ⟨i, rfl, hi, HVi, B3i, hbi⟩ := hrel
        clear HV4 B3d hbd B6c x6 z6
        by_cases hil : i < K.rows.length
        · have h3 : (i : Int) < (K.rows.length : Int) := by omega
          have HRI := hid (HKR.out _ hbi.out)
          obtain ⟨g4, go4, eg, hc⟩ := rowAt (g := cLN) (fun _ => rfl) HRI.out (i := i) (x := K.rows[i]) (by simp [hil])
          subst eg
          have c0 := hc 0 _ rfl
          have c1 := hc 1 _ rfl
          clear hc
          simp only [Nat.add_zero] at c0
          have hgb := World.block_lt_of_cell? _ _ c0
          have HRX := hid (HKW.out.rows K.rows[i] (List.getElem_mem hil))
          have HSN := hid (rwB_snoc K.rows i hil)
          have HLI : Hid ((Y ++ rwB (K.rows.take i)).length + 20 ≤ 140737488355328) := hid (by
            have h1 := rwB_len (K.rows.take i)
            have h2 := HLX.out
            rw [List.length_append]
            rw [List.length_take] at h1
            omega)
          generalize K.rows[i] = r at *
          obtain ⟨t, q⟩ := r
          dsimp only at c0 c1
          have HN2 : Hid (∀ n ∈ [t, q], 0 ≤ n ∧ n ≤ 9223372036854775807) := hid (by
            have := HRX.out
            dsimp only at this
            intro n hn
            simp only [List.mem_cons, List.not_mem_nil, or_false] at hn
            omega)
          have BL2 : Hid (Blk ((wr.alloc (.cells #[.int .i64 t, .int .i64 q] 50)).alloc (.cells #[.int .i64 t, .int .i64 q] 3)) (wr.heap.size + 1) 3 ([t, q].map (Value.int .i64)).toArray) := hid (Blk.newAt (by simp))
          have HOv := hid ((HVi.out.kept (below_alloc (w := wr) (.cells #[.int .i64 t, .int .i64 q] 50))).kept (below_alloc (.cells #[.int .i64 t, .int .i64 q] 3)))
          have HA4 := hid (addNumbersT _ w.heap.size u4 _ HOv.out (by have := hbi.out.size; simp; omega) [t, q] _ _ _ (fun b' hb' => by rw [hb']; exact own_lt HVi.out (by omega)) (intsRow _ (by simp) BL2.out) HN2.out (by have := HLI.out; simp only [List.length_cons, List.length_nil]; omega))
          clear BL2
          go_wp2_with fail
          refine HA4.out.mono ?_
          rintro e w5 ⟨v5, rfl, hv5, hg5⟩
          have HV5 : Hid (OwnB w5 w.heap.size v5 (Y ++ rwB (K.rows.take (i + 1)))) := hid (by rw [HSN.out, ← List.append_assoc]; exact hv5)
          have B3j := hid (grow_blkB hg5 HOv.out ((B3i.out.kept (below_alloc _)).kept (below_alloc _)) (by decide))
          have hbj : Hid (Below w.heap.size w w5) := hid (growBl (bl_alloc (bl_alloc hbi.out _) _) HOv.out hg5)
          clear hv5 hg5 HA4 HOv
          go_wp2
          exact ⟨⟨i + 1, by simp, by omega, HV5, B3j, hbj⟩, by simp [numAt]; omega⟩
        · have h3 : ¬ (i : Int) < (K.rows.length : Int) := by omega
          obtain rfl : i = K.rows.length := by omega
          have HVE : Hid (OwnB wr w.heap.size u4 ([67, 84] ++ nvB [(bs.length : Int)] ++ (bs.take (j + 1)).flatMap (fun x : BV => bkB x.k))) := hid (by
            rw [HTK.out, ← HTE.out _ rfl]
            simpa using HVi.out)
          clear HVi
          go_wp2
          exact ⟨⟨j + 1, by simp, by omega, HVE, B3i, hbi⟩, by simp [numAt]; omega⟩
    · have h2 : ¬ (j : Int) < (bs.length : Int) := by omega
      obtain rfl : j = bs.length := by omega
      go_wp2
      go_ret
      exact ⟨_, rfl, by unfold pgB; simpa using HV.out, hb.out⟩
set_option maxHeartbeats 4000000
def wrC (a : Option Addr) (v : Value) : Array Value := (opAll ++ [.pointer a, v]).toArray
theorem wrC_75 (a : Option Addr) (v : Value) : (wrC a v)[75]? = some (.pointer a) := by
  unfold wrC
  rw [List.getElem?_toArray, List.getElem?_append_right (by rw [opAll_len]; decide), opAll_len]
  rfl
theorem wrC_76 (a : Option Addr) (v : Value) : (wrC a v)[76]? = some v := by
  unfold wrC
  rw [List.getElem?_toArray, List.getElem?_append_right (by rw [opAll_len]; decide), opAll_len]
  rfl
theorem wrC_lo (a : Option Addr) (v : Value) (i : Nat) (h : i < 75) : (wrC a v)[i]? = opAll.toArray[i]? := by
  unfold wrC
  rw [List.getElem?_toArray, List.getElem?_toArray, List.getElem?_append_left (by rw [opAll_len]; exact h)]
theorem wrC_size (a : Option Addr) (v : Value) : (wrC a v).size = 77 := by
  unfold wrC
  simp [opAll_len]
theorem wrC_set75 (a b : Option Addr) (v : Value) : (wrC a v).setIfInBounds 75 (.pointer b) = wrC b v := by
  unfold wrC
  rw [List.setIfInBounds_toArray, List.set_append_right _ _ (by rw [opAll_len]; decide), opAll_len]
  rfl
theorem wrC_set76 (a : Option Addr) (v u : Value) : (wrC a v).setIfInBounds 76 u = wrC a u := by
  unfold wrC
  rw [List.setIfInBounds_toArray, List.set_append_right _ _ (by rw [opAll_len]; decide), opAll_len]
  rfl
/-- A writer. -/
structure WrS (w : World) (base p : Nat) (a : Option Addr) (v : Value) (xs : List Int) : Prop where
  blk : Blk w p 75 (wrC a v)
  own : OwnB w base v xs
  ad : a = none ∨ a = some ⟨p, 75, none⟩
def WrA (w : World) (base p : Nat) (xs : List Int) : Prop := ∃ a v, WrS w base p a v xs
/-- What stays. -/
structure KT (base p : Nat) (w w' : World) : Prop where
  kp : Keep (fun b => b < base ∧ b ≠ p) w w'
  bl : ∀ q t cs, q ≠ p → t ≠ 5 → Blk w q t cs → Blk w' q t cs
theorem KT.refl (base p : Nat) (w : World) : KT base p w w := ⟨Keep.refl _ _, fun _ _ _ _ _ h => h⟩
theorem KT.trans {base p : Nat} {w w1 w2 : World} (h : KT base p w w1) (g : KT base p w1 w2) : KT base p w w2 := ⟨h.kp.trans g.kp, fun q t cs hq ht hB => g.bl q t cs hq ht (h.bl q t cs hq ht hB)⟩
theorem KT.below {base p : Nat} {w w' : World} (h : Below w.heap.size w w') : KT base p w w' := ⟨Keep.ofBelow h, fun _ _ _ _ _ hB => hB.kept h⟩
theorem KT.set {base p : Nat} (w : World) (i : Nat) (u : Value) : KT base p w (w.setCell ⟨p, i, none⟩ u) := ⟨Keep.setCell _ _ _ (fun h => h.2 rfl), fun q t cs hq _ hB => hB.other hq u⟩
theorem KT.grown {base p : Nat} {w w' : World} {v : Value} {xs : List Int} (g : w.grownBy w' v.ownBlock) (h : OwnB w base v xs) : KT base p w w' := ⟨⟨g.os, g.tape, g.output, g.size, fun k hk hf => g.block k hk (fun e => by have := (own_type h e.symm).1; omega)⟩, fun q t cs _ ht hB => (g.block q hB.lt (fun e => own_neB h hB ht e.symm)).trans hB⟩
theorem Tryd.sizeBl16 : (Tryd.prog.info? 73).map (·.size) = some 2 := by kernel_rfl
theorem Tryd.liesBl16 : liesAt Tryd.prog Tryd.prog.depth 75 (77 / Tryd.prog.cellsOf 75) 75 73 1 = true := by kernel_rfl
theorem blk_shape {w : World} {p : Nat} {t : TypeId} {cs : Array Value} (h : Blk w p t cs) : w.shape? p = some (t, cs.size) := by
  unfold World.shape?
  rw [show w.heap[p]? = _ from h]
theorem copyUsed16 (p : Nat) (w : World) (h0 : w.cell? ⟨p, 75, none⟩ = some (.pointer (some ⟨p, 75, none⟩))) :
    Calls Tryd.prog 61 #[.pointer (some ⟨p, 75, none⟩)] w fun e w' => e = .returned (.tuple #[]) ∧ w' = w := by
  obtain ⟨j, hj, _⟩ := Option.map_eq_some_iff.1 Tryd.sizeBl16
  go_enter Tryd.func61, Tryd.ntmps61
  go_wp2
  rw [Lib.run_neq_ptr_same w _ Tryd.underlying71 hj]
  go_wp2
  go_end0
  exact ⟨rfl, rfl⟩
theorem copyFresh16 (p : Nat) (w : World) (h0 : w.cell? ⟨p, 75, none⟩ = some (.pointer none)) (hsh : w.shape? p = some (75, 77)) (hfz : w.frozen? ⟨p, 75, none⟩ = false) :
    Calls Tryd.prog 61 #[.pointer (some ⟨p, 75, none⟩)] w fun e w' => e = .returned (.tuple #[]) ∧ w' = w.setCell ⟨p, 75, none⟩ (.pointer (some ⟨p, 75, none⟩)) := by
  obtain ⟨j, hj, hjs⟩ := Option.map_eq_some_iff.1 Tryd.sizeBl16
  go_enter Tryd.func61, Tryd.ntmps61
  go_wp2
  rw [Lib.run_to_unsafe w ⟨p, 75, none⟩ Tryd.underlying71 Tryd.underlying117 hj (by rw [hjs]; decide) hsh (show 75 < 77 by decide)]
  simp only [Result.andThen]
  rw [Oper.upon_value]
  go_wp2
  rw [run_callFunc_extern Tryd.func73 (by kernel_rfl) (by kernel_rfl) (by kernel_rfl) (e := Extern.AbiNoEscape.same) (by kernel_rfl)]
  rw [Lib.run_noEscape]
  simp only [Result.andThen]
  rw [Oper.upon_value]
  go_wp2
  rw [Lib.run_from_unsafe w ⟨p, 75, none⟩ Tryd.underlying117 Tryd.underlying71 hj hsh Tryd.liesBl16]
  simp only [Result.andThen]
  rw [Oper.upon_value]
  go_wp2
  go_end0
  exact ⟨rfl, rfl⟩
theorem copyT16 (w : World) (base p : Nat) (xs : List Int) (h : WrA w base p xs) (hp : p < base) : Calls Tryd.prog 61 #[.pointer (some ⟨p, 75, none⟩)] w fun e w' => e = .returned (.tuple #[]) ∧ (∃ v, WrS w' base p (some ⟨p, 75, none⟩) v xs) ∧ KT base p w w' := by
  obtain ⟨a, v, hB, ho, ha⟩ := h
  rcases ha with rfl | rfl
  · refine (copyFresh16 p w (by rw [hB.cellF, wrC_75]) (by rw [blk_shape hB, wrC_size]) (hB.frz 75)).mono ?_
    rintro e w' ⟨rfl, rfl⟩
    refine ⟨rfl, ⟨v, ?_, ?_, .inr rfl⟩, KT.set _ _ _⟩
    · have := hB.set 75 (.pointer (some ⟨p, 75, none⟩))
      rw [wrC_set75] at this
      exact this
    · exact own_keep (f := (· ≠ p)) ho (fun k hk e => by have := (own_type ho hk).1; omega) (Keep.setCell _ _ _ (fun h => h rfl))
  · refine (copyUsed16 p w (by rw [hB.cellF, wrC_75])).mono ?_
    rintro e w' ⟨rfl, rfl⟩
    exact ⟨rfl, ⟨v, hB, ho, .inr rfl⟩, KT.refl _ _ _⟩
theorem strCells_nums (ys : List Int) (hb : ∀ y ∈ ys, 0 ≤ y ∧ y ≤ 255) : Lib.strCells (strOfNums ys) = ys.map (Value.int .u8) := by
  unfold Lib.strCells strOfNums
  simp only [List.toList_toArray, List.map_map]
  apply List.map_congr_left
  intro y hy
  have := hb y hy
  simp only [Function.comp, UInt8.toNat_ofNat']
  congr 1
  omega
theorem writeT (w : World) (base p : Nat) (xs ys : List Int) (h : WrA w base p xs) (hp : p < base) (hb : base ≤ w.heap.size) (hy : ∀ y ∈ ys, 0 ≤ y ∧ y ≤ 255) (hl : xs.length + ys.length ≤ 140737488355328) :
    Calls Tryd.prog 45 #[.pointer (some ⟨p, 75, none⟩), .string (strOfNums ys)] w fun e w' => (∃ n : Int, e = .returned (.tuple #[.int .i64 n, .nilIface])) ∧ WrA w' base p (xs ++ ys) ∧ KT base p w w' := by
  obtain ⟨i0, hi, hz0, hz1, hz2⟩ := info_parts Tryd.info5c
  have HS := hid (strCells_nums ys hy)
  have hsz : (strOfNums ys).size = ys.length := strOfNums_size ys
  generalize strOfNums ys = s at *
  go_enter Tryd.func45, Tryd.ntmps45
  go_wp2_with fail
  refine (copyT16 w base p xs h hp).mono ?_
  rintro e w1 ⟨rfl, ⟨v, hW⟩, hk1⟩
  have hbk := hW.blk
  have hown := hW.own
  have hsz1 : base ≤ w1.heap.size := Nat.le_trans hb hk1.kp.size
  have c0 : w1.cell? ⟨p, 75, none⟩ = some (.pointer (some ⟨p, 75, none⟩)) := by rw [hbk.cellF, wrC_75]
  have c1 : w1.cell? ⟨p, 76, none⟩ = some v := by rw [hbk.cellF, wrC_76]
  unfold OwnB at hown
  go_wp2_with (at_builtin; refine Lib.wpList_append_own_string _ rfl _ _ 25 9 rfl base 5 i0 Tryd.underlying25 Tryd.underlying9 hi hz0 hz1 hz2 _ _ _ rfl hown s rfl ?c3 ?c4 ?c5 ?_)
  case c3 => unfold maxLen; omega
  case c4 => omega
  case c5 => omega
  intro v' w2 hown' hgrow _
  have hk2 : KT base p w1 w2 := KT.grown hgrow hW.own
  have hB2 : Blk w2 p 75 (wrC (some ⟨p, 75, none⟩) v) := (hgrow.block p hbk.lt (fun e => own_neB hW.own hbk (by decide) e.symm)).trans hbk
  have d0 : w2.cell? ⟨p, 75, none⟩ = some (.pointer (some ⟨p, 75, none⟩)) := by rw [hB2.cellF, wrC_75]
  have d1 : w2.cell? ⟨p, 76, none⟩ = some v := by rw [hB2.cellF, wrC_76]
  have f1 : w2.frozen? ⟨p, 76, none⟩ = false := hB2.frz 76
  have HV : Hid (OwnB w2 base v' (xs ++ ys)) := hid (by
    unfold OwnB
    simp only [HS.out, hsz] at hown'
    rw [List.map_append, List.length_append]
    exact hown')
  obtain ⟨ao, n', cap, rfl⟩ : ∃ ao n' cap, v' = .slice ao n' cap := by
    rcases hown'.2 with ⟨hv, _⟩ | ⟨g, cap, cur, hv, _⟩
    · exact ⟨_, _, _, hv⟩
    · exact ⟨_, _, _, hv⟩
  have HB2 := hid hB2
  have HK : Hid (KT base p w w2) := hid (hk1.trans hk2)
  clear hown' hgrow hB2 hk2 hk1 hW hown hbk c0 c1 HS
  go_wp2
  go_ret2
  refine ⟨⟨_, rfl⟩, ⟨some ⟨p, 75, none⟩, .slice ao n' cap, ?_, ?_, .inr rfl⟩, HK.out.trans (KT.set _ _ _)⟩
  · have := HB2.out.set 76 (.slice ao n' cap)
    rw [wrC_set76] at this
    exact this
  · exact own_keep (f := (· ≠ p)) HV.out (fun k hk e => by have := (own_type HV.out hk).1; omega) (Keep.setCell _ _ _ (fun h => h rfl))
theorem WrA.kept {w w' : World} {base p : Nat} {xs : List Int} (h : WrA w base p xs) (g : Below w.heap.size w w') : WrA w' base p xs := by
  obtain ⟨a, v, hB, ho, ha⟩ := h
  exact ⟨a, v, hB.kept g, ho.kept g, ha⟩
/-- What a builder that holds bytes tells. -/
theorem stringT (w : World) (base p : Nat) (xs : List Int) (h : WrA w base p xs) (hx : ∀ x ∈ xs, 0 ≤ x ∧ x ≤ 255) (h0 : xs ≠ []) : Calls Tryd.prog 28 #[.pointer (some ⟨p, 75, none⟩)] w fun e w' => e = .returned (.string (strOfNums xs)) ∧ Below base w w' := by
  obtain ⟨a, v, hB, ho, ha⟩ := h
  have hl0 : xs.length ≠ 0 := by simpa using h0
  obtain ⟨g, cap, cur, rfl, hbg, hg, hnc, hcm, hcs, htake⟩ : ∃ g cap cur, v = .slice (some ⟨g, 0, none⟩) xs.length cap ∧ base ≤ g ∧ w.heap[g]? = some (.cells cur 5 (0, 0)) ∧ xs.length ≤ cap ∧ cap ≤ maxLen ∧ cur.size = cap * 1 ∧ cur.toList.take (xs.length * 1) = xs.map (Value.int .u8) := by
    rcases ho.2 with ⟨_, hz⟩ | ⟨g, cap, cur, hv, r⟩
    · exact absurd hz hl0
    · exact ⟨g, cap, cur, hv, r⟩
  have c1 : w.drew.cell? ⟨p, 76, none⟩ = some (.slice (some ⟨g, 0, none⟩) xs.length cap) := by
    have := (hB.kept (below_drew1 w)).cellF 76
    rw [wrC_76] at this
    exact this
  have hSD : (Builtin.unsafeSliceData_ #[25] 101 #[.slice (some ⟨g, 0, none⟩) xs.length cap]).run Tryd.prog w.drew = .ok (.pointer (some ⟨g, 0, none⟩)) w.drew :=
    Lib.run_unsafeSliceData_row _ _ _ _ _ _ (by omega)
  obtain ⟨l, el⟩ : ∃ l : List UInt8, l = xs.map fun n => UInt8.ofNat n.toNat := ⟨_, rfl⟩
  have e8 : (strOfNums xs) = ⟨l.toArray⟩ := by rw [el]; unfold strOfNums; rfl
  have e9 : l.length = xs.length := by rw [el, List.length_map]
  have hUS : (Builtin.unsafeString_ #[101, 3] 9 #[.pointer (some ⟨g, 0, none⟩), .int .i64 l.length]).run Tryd.prog w.drew = .ok (.string ⟨l.toArray⟩) (w.drew.freeze ⟨g, 0, none⟩ l.length) := by
    refine Lib.run_unsafeString_row w.drew 101 3 9 5 Tryd.underlying101 (by kernel_rfl) g cur.size (by have hg' : w.drew.heap[g]? = some (.cells cur 5 (0, 0)) := hg; simp [World.shape?, hg']) l (by intro h; rw [h] at e9; simp at e9; omega) (by omega) (by unfold maxLen at hcm; omega) ?_
    intro j x hx'
    have hj : j < xs.length := by have := (List.getElem?_eq_some_iff.1 hx').1; omega
    have hxe : x = UInt8.ofNat (xs[j]).toNat := by
      rw [el, List.getElem?_map, List.getElem?_eq_getElem hj] at hx'
      exact (Option.some.inj hx').symm
    have h3 := ho.cells (g := g) rfl j (.int .u8 xs[j]) (by simp [hj])
    have h4 := hx xs[j] (List.getElem_mem hj)
    have h5 : ((x.toNat : Nat) : Int) = xs[j] := by
      rw [hxe, UInt8.toNat_ofNat']
      omega
    rw [h5]
    exact h3
  rw [e9] at hUS
  have HG := hid hbg
  have x63 : (xs.length : Int) ≤ 9223372036854775807 := by unfold maxLen at hcm; omega
  rw [e8]
  clear hB ho hg hnc hcs htake e8 el e9 ha hx h0 hl0 hbg hcm
  have mixed : Tryd.prog.follows Departure.mixedOrders = true := by kernel_rfl
  go_enter Tryd.func28, Tryd.ntmps28
  go_wp2
  go_region_o
  all_goals (go_wp2; go_ret; exact ⟨rfl, Lib.below_freeze (Below.drew (Below.refl base w)) (p := ⟨g, 0, none⟩) HG.out _⟩)
end Go.Proofs.YtpndejibjiojbaaDoor
