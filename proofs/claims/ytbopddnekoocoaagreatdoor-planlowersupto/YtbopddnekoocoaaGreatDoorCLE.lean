/-
  The least number above the last: what an enum's rows come to, one by one.
  The document's: an enum's block.
  Lower.
  What a valid program's steps are asked: where all is well.
  What a valid program's steps are asked: where all is well, operation by operation.
  What a valid program's steps are asked: where all is well, operation by operation.
  What a valid program's steps are asked: where all is well, operation by operation.
  A valid block's steps, where all is well.
  Rows of a valid block, where all is well.
  Valid, where all is well.
  PlanKept.
  What is lowered is valid.
  What is lowered is valid: Enc, and all.
  The document's enum block is the program's.
-/
import Derived.Test.YtbopddnekoocoaaGreatDoorCTX
import Derived.Test.YtbopddnekoocoaaGreatDoorCKO
namespace Go.Proofs.YtbopddnekoocoaaGreatDoor
open Go.RowKit
set_option maxRecDepth 1000000
set_option linter.unusedVariables false
set_option linter.unusedSimpArgs false
set_option maxHeartbeats 1000000
/-- Is a number above the last one? -/
def aboveB : Option Int → Int → Bool
  | none, _ => true
  | some z, k => decide (z < k)
def above (o : Option Int) (k : Int) : Prop := aboveB o k = true
theorem above_of {o : Option Int} {k : Int} (h : ∀ z, o = some z → z < k) : above o k := by
  unfold above
  cases o with
  | none => rfl
  | some z => exact decide_eq_true (h z rfl)
theorem above.lt {z k : Int} {o : Option Int} (h : above o k) (e : o = some z) : z < k := by
  subst e
  exact of_decide_eq_true h
def lsS (o : Option Int) (acc k : Int) : Int := if aboveB o k = true ∧ (acc < 0 ∨ k < acc) then k else acc
def lsL (o : Option Int) (l : List Int) : Int := l.foldl (lsS o) (-1)
theorem lsL_snoc (o : Option Int) (l : List Int) (k : Int) : lsL o (l ++ [k]) = lsS o (lsL o l) k := by unfold lsL; rw [List.foldl_append]; rfl
theorem lsL_is (o : Option Int) (l : List Int) (h0 : ∀ k ∈ l, 0 ≤ k) : (lsL o l = -1 ∧ ∀ k ∈ l, ¬ above o k) ∨ (lsL o l ∈ l ∧ above o (lsL o l) ∧ ∀ k ∈ l, above o k → lsL o l ≤ k) := by
  generalize hn : l.length = n
  induction n generalizing l with
  | zero => obtain rfl := List.eq_nil_of_length_eq_zero hn; exact .inl ⟨rfl, fun k hk => by cases hk⟩
  | succ n ih =>
    obtain ⟨l', k, rfl⟩ : ∃ l' k, l = l' ++ [k] := ⟨l.dropLast, l.getLast (by intro e; rw [e] at hn; cases hn), (List.dropLast_concat_getLast _).symm⟩
    have hk : 0 ≤ k := h0 k (by simp)
    have ih' := ih l' (fun x hx => h0 x (by simp [hx])) (by simpa using hn)
    rw [lsL_snoc]
    unfold lsS
    rcases ih' with ⟨e, hno⟩ | ⟨hm, ha, hle⟩
    · rw [e]
      by_cases h : above o k
      · rw [if_pos ⟨h, .inl (by omega)⟩]
        refine .inr ⟨by simp, h, fun x hx hax => ?_⟩
        rcases List.mem_append.1 hx with q | q
        · exact absurd hax (hno x q)
        · simp at q; omega
      · rw [if_neg (fun q => h q.1)]
        refine .inl ⟨rfl, fun x hx => ?_⟩
        rcases List.mem_append.1 hx with q | q
        · exact hno x q
        · simp at q; rw [q]; exact h
    · have hpos : 0 ≤ lsL o l' := h0 _ (by simp [hm])
      by_cases h : aboveB o k = true ∧ (lsL o l' < 0 ∨ k < lsL o l')
      · rw [if_pos h]
        refine .inr ⟨by simp, h.1, fun x hx hax => ?_⟩
        rcases List.mem_append.1 hx with q | q
        · have := hle x q hax
          have := h.2
          omega
        · simp at q; omega
      · rw [if_neg h]
        refine .inr ⟨by simp [hm], ha, fun x hx hax => ?_⟩
        rcases List.mem_append.1 hx with q | q
        · exact hle x q hax
        · simp at q
          subst q
          by_cases q2 : x < lsL o l'
          · exact absurd ⟨hax, .inr q2⟩ h
          · omega
/-- The next row's number. -/
theorem lsL_next (S l : List Int) (hS : S.Pairwise (· < ·)) (hm : ∀ k, k ∈ S ↔ k ∈ l) (h0 : ∀ k ∈ l, 0 ≤ k) (n : Nat) (hn : n < S.length) : lsL (if n = 0 then none else S[n - 1]?) l = S[n] := by
  have hab : above (if n = 0 then none else S[n - 1]?) S[n] := by
    refine above_of fun z hz => ?_
    by_cases e : n = 0
    · rw [if_pos e] at hz; cases hz
    · rw [if_neg e, List.getElem?_eq_getElem (by omega)] at hz
      cases hz
      exact List.pairwise_iff_getElem.1 hS _ _ _ _ (by omega)
  have hin : S[n] ∈ l := (hm _).1 (List.getElem_mem hn)
  rcases lsL_is (if n = 0 then none else S[n - 1]?) l h0 with ⟨_, h⟩ | ⟨h1, h2, h3⟩
  · exact absurd hab (h _ hin)
  · have q1 := h3 _ hin hab
    obtain ⟨i, hi, ei⟩ := List.mem_iff_getElem.1 ((hm _).2 h1)
    by_cases hlt : i < n
    · exfalso
      have h4 : S[n - 1] < lsL (if n = 0 then none else S[n - 1]?) l := h2.lt (by rw [if_neg (by omega), List.getElem?_eq_getElem (by omega)])
      rw [← ei] at h4
      by_cases e : i = n - 1
      · subst e; omega
      · have := List.pairwise_iff_getElem.1 hS i (n - 1) hi (by omega) (by omega)
        omega
    · by_cases e : i = n
      · subst e; rw [ei]
      · have := List.pairwise_iff_getElem.1 hS n i hn hi (by omega)
        omega
def lastO (S : List LN) (n : Nat) : Option Int := if n = 0 then none else (S.map LN.tag)[n - 1]?
theorem lowEnumR (w : World) (l : List TV) (ta : Option Addr) (tc : Nat) (h : TbR w (.slice ta l.length tc) l) (k : Nat) (hk : k < l.length) (he : l[k].t.enum = true) (S : List LN) (hN : l[k].t.ss.length ≤ 128) (hS : S.length = l[k].t.ss.length) (hX : ∀ n (hn : n < S.length), S[n] = ⟨lsL (lastO S n) (l[k].t.ss.map SY.num), 0⟩) : Calls Tryz.prog 11 #[.agg #[.slice ta l.length tc], .int .i64 (k : Int)] w (BlkA w ⟨[], [], S⟩) := by
  have HTY := hid (h.ty _ (List.getElem_mem hk))
  obtain ⟨_, _, e, hn63⟩ := rowS_sl h.row
  clear e
  have hl63 : (l.length : Int) ≤ 9223372036854775807 := by omega
  have hk1 : (k : Int) < (l.length : Int) := by omega
  obtain ⟨tb, tof, etb, hbl, c0, c1, c2, c3, c4, c5⟩ := row6 h.row hk
  subst etb
  clear h
  generalize l[k] = x at *
  obtain ⟨t, f, o, s, r⟩ := x
  obtain ⟨fa, fc, ef, -⟩ := rowS_sl HTY.out.f
  obtain ⟨oa, oc, eo, -⟩ := rowS_sl HTY.out.o
  obtain ⟨sa, sc, es, -⟩ := rowS_sl HTY.out.s
  obtain ⟨ra, rc, er, -⟩ := rowS_sl HTY.out.r
  dsimp only at ef eo es er he hN hS hX
  subst ef eo es er
  dsimp only at c0 c1 c2 c3 c4 c5
  rw [he] at c1
  have HR := hid HTY.out.s
  clear HTY he
  dsimp only at HR
  go_enter Tryz.func11, Tryz.ntmps11
  go_upto_region 3 with fail
  have BR : Hid (Blk ((((w.alloc (.cells #[.slice (some ⟨tb, tof, none⟩) l.length tc] 24)).alloc (.cells #[.slice none 0 0, .slice none 0 0, .slice none 0 0] 28)).alloc (.cells #[.string (strOfNums t.name), .bool true, .slice fa t.fs.length fc, .slice oa t.os.length oc, .slice sa t.ss.length sc, .slice ra t.rs.length rc] 50)).alloc (.cells #[.slice none 0 0, .slice none 0 0, .slice none 0 0] 28)) (w.heap.size + 1) 28 #[.slice none 0 0, .slice none 0 0, .slice none 0 0]) := hid (((Blk.newAt (by simp)).kept (below_alloc _)).kept (below_alloc _))
  have BX : Hid (Blk ((((w.alloc (.cells #[.slice (some ⟨tb, tof, none⟩) l.length tc] 24)).alloc (.cells #[.slice none 0 0, .slice none 0 0, .slice none 0 0] 28)).alloc (.cells #[.string (strOfNums t.name), .bool true, .slice fa t.fs.length fc, .slice oa t.os.length oc, .slice sa t.ss.length sc, .slice ra t.rs.length rc] 50)).alloc (.cells #[.slice none 0 0, .slice none 0 0, .slice none 0 0] 28)) (w.heap.size + 1 + 1) 50 #[.string (strOfNums t.name), .bool true, .slice fa t.fs.length fc, .slice oa t.os.length oc, .slice sa t.ss.length sc, .slice ra t.rs.length rc]) := hid ((Blk.newAt (by simp)).kept (below_alloc _))
  have BB : Hid (Blk ((((w.alloc (.cells #[.slice (some ⟨tb, tof, none⟩) l.length tc] 24)).alloc (.cells #[.slice none 0 0, .slice none 0 0, .slice none 0 0] 28)).alloc (.cells #[.string (strOfNums t.name), .bool true, .slice fa t.fs.length fc, .slice oa t.os.length oc, .slice sa t.ss.length sc, .slice ra t.rs.length rc] 50)).alloc (.cells #[.slice none 0 0, .slice none 0 0, .slice none 0 0] 28)) (w.heap.size + 1 + 1 + 1) 28 #[.slice none 0 0, .slice none 0 0, .slice none 0 0]) := hid (Blk.newAt (by simp))
  have HB : Hid (Below w.heap.size w ((((w.alloc (.cells #[.slice (some ⟨tb, tof, none⟩) l.length tc] 24)).alloc (.cells #[.slice none 0 0, .slice none 0 0, .slice none 0 0] 28)).alloc (.cells #[.string (strOfNums t.name), .bool true, .slice fa t.fs.length fc, .slice oa t.os.length oc, .slice sa t.ss.length sc, .slice ra t.rs.length rc] 50)).alloc (.cells #[.slice none 0 0, .slice none 0 0, .slice none 0 0] 28)) ∧ ((((w.alloc (.cells #[.slice (some ⟨tb, tof, none⟩) l.length tc] 24)).alloc (.cells #[.slice none 0 0, .slice none 0 0, .slice none 0 0] 28)).alloc (.cells #[.string (strOfNums t.name), .bool true, .slice fa t.fs.length fc, .slice oa t.os.length oc, .slice sa t.ss.length sc, .slice ra t.rs.length rc] 50)).alloc (.cells #[.slice none 0 0, .slice none 0 0, .slice none 0 0] 28)).heap.size = w.heap.size + 1 + 1 + 1 + 1) := hid ⟨by exact blBy, by simp⟩
  replace HR := hid (rowOldP (by decide) HR.out)
  replace HR := hid (HR.out.kept HB.out.1)
  clear c0 c1 c2 c3 c4 c5 hbl
  generalize ((((w.alloc (.cells #[.slice (some ⟨tb, tof, none⟩) l.length tc] 24)).alloc (.cells #[.slice none 0 0, .slice none 0 0, .slice none 0 0] 28)).alloc (.cells #[.string (strOfNums t.name), .bool true, .slice fa t.fs.length fc, .slice oa t.os.length oc, .slice sa t.ss.length sc, .slice ra t.rs.length rc] 50)).alloc (.cells #[.slice none 0 0, .slice none 0 0, .slice none 0 0] 28)) = W at *
  generalize eq : w.heap.size = q at *
  generalize eN : t.ss.length = N at *
  have hN63 : (N : Int) ≤ 9223372036854775807 := by omega
  replace hX := hid hX
  replace hS := hid hS
  replace eN := hid eN
  have xx := BX.out.cellF
  have zx := BX.out.lt
  go_wp2_with fail
  clear xx zx
  have HSB := hid (fun b (hb : b < w.heap.size) => (show b ≠ q + 1 + 1 + 1 ∧ b < W.heap.size by have := HB.out.2; omega))
  rw [eq] at HSB
  go_loopw [7] (fun r wr => ∃ (n : Nat) (ga : Option Addr) (gc : Nat), r = .int .i64 n ∧ n ≤ N ∧ Hid (Blk wr (q + 1 + 1 + 1) 28 #[.slice none 0 0, .slice none 0 0, .slice ga n gc]) ∧ Hid (wr.ownsRow W.heap.size 61 2 (.slice ga n gc) n ((S.take n).flatMap cLN)) ∧ Hid (Keep (fun b => b ≠ q + 1 + 1 + 1 ∧ b < W.heap.size) W wr)) (fun r wr => N - numAt wr r)
  case atStart => exact ⟨0, none, 0, rfl, by omega, BB, hid (World.ownsRow_nil _ _ _ _), hid (Keep.refl _ _)⟩
  case round =>
    clear BB
    obtain ⟨n, ga, gc, rfl, hn, BB, HO, HK⟩ := hrel
    have BX1 := hid (BX.out.keep HK.out (by have := HB.out.2; omega))
    have HR1 := hid (HR.out.keep HK.out HSB.out)
    have xx := BX1.out.cellF
    have zx := BX1.out.lt
    have xb := BB.out.cellF
    have zb := BB.out.lt
    have yb := BB.out.frz
    by_cases hlt : n < N
    · have j1 : (n : Int) < (N : Int) := by omega
      have hnS : n < S.length := by have := hS.out; omega
      have HNX := hid (hX.out n hnS)
      have HTK : Hid (S.take (n + 1) = S.take n ++ [S[n]]) := hid (List.take_succ_eq_append_getElem hnS)
      have HLN : Hid ((S.take n).length = n) := hid (by rw [List.length_take]; omega)
      obtain ⟨o, ho⟩ : ∃ o, o = lastO S n := ⟨_, rfl⟩
      rw [← ho] at HNX
      have HLC : Hid ((n = 0 ∧ o = none) ∨ ∃ (i pb po : Nat) (z : Int), n = i + 1 ∧ o = some z ∧ ga = some ⟨pb, po, none⟩ ∧ wr.cell? ⟨pb, po + i * 2, none⟩ = some (.int .i64 z)) := hid (by
        by_cases e : n = 0
        · exact .inl ⟨e, by rw [ho]; unfold lastO; rw [if_pos e]⟩
        · have hi : n - 1 < S.length := by omega
          have HO' : wr.ownsRow W.heap.size 61 2 (.slice ga n gc) (S.take n).length ((S.take n).flatMap cLN) := by rw [HLN.out]; exact HO.out
          obtain ⟨pb, po, epb, hc⟩ := rowAt (g := cLN) (K := 2) (fun _ => rfl) (own_row HO' (Z := AnyZ) (fun _ _ => trivial)) (i := n - 1) (x := S[n - 1]) (by rw [List.getElem?_take, if_pos (by omega), List.getElem?_eq_getElem hi])
          refine .inr ⟨n - 1, pb, po, S[n - 1].tag, by omega, ?_, epb, ?_⟩
          · rw [ho]; unfold lastO; rw [if_neg e]; simp [hi]
          · have := hc 0 _ rfl; simpa using this)
      generalize S[n] = s0 at *
      clear ho hnS
      go_wp2_with fail
      go_loopw [8, 9] (fun a r wi => ∃ i : Nat, r = .int .i64 i ∧ a = .int .i64 (lsL o ((t.ss.take i).map SY.num)) ∧ i ≤ N ∧ wi = wr) (fun a r wi => N - numAt wi r)
      case atStart => exact ⟨0, rfl, rfl, by omega, rfl⟩
      case round =>
        obtain ⟨i, rfl, rfl, hi, rfl⟩ := hrel
        by_cases hl2 : i < N
        · have i1 : (i : Int) < (N : Int) := by omega
          have hi2 : i < t.ss.length := by have := eN.out; omega
          have HR2 : RowS wr (fun b => b < q) 2 (.slice sa N sc) t.ss.length (t.ss.flatMap cSY) := by rw [eN.out]; exact HR1.out
          obtain ⟨sb, so, esb, hc⟩ := rowAt (g := cSY) (fun _ => rfl) HR2 (i := i) (x := t.ss[i]) (by simp [hi2])
          cases esb
          have s1 := hc 1 _ rfl
          clear hc HR2
          have hsb : sb < wr.heap.size := World.block_lt_of_cell? _ _ s1
          have HSN : Hid (lsL o ((t.ss.take (i + 1)).map SY.num) = lsS o (lsL o ((t.ss.take i).map SY.num)) t.ss[i].num) := hid (by rw [List.take_succ_eq_append_getElem hi2, List.map_append]; exact lsL_snoc _ _ _)
          generalize t.ss[i].num = kk at *
          generalize lsL o ((t.ss.take i).map SY.num) = acc at *
          clear hi2
          rcases HLC.out with ⟨e0, eo⟩ | ⟨i', pb, po, z, en', eo, ega, hcell⟩
          · have n0 : ((n : Int) == 0) = true := by simp [e0]
            have HAB : aboveB o kk = true := by rw [eo]; rfl
            clear HLC e0 eo
            by_cases a0 : acc < 0
            · have k0 : (acc < 0) = True := eq_true a0
              have HV : Hid (lsL o ((t.ss.take (i + 1)).map SY.num) = kk) := hid (by rw [HSN.out]; unfold lsS; rw [if_pos ⟨HAB, .inl a0⟩])
              clear HSN a0 HAB
              go_wp2
              exact ⟨⟨i + 1, by simp, by rw [HV.out], by omega, by first | trivial | rfl⟩, by simp [numAt]; omega⟩
            have k0 : (acc < 0) = False := eq_false a0
            by_cases a1 : kk < acc
            · have k1 : (kk < acc) = True := eq_true a1
              have HV : Hid (lsL o ((t.ss.take (i + 1)).map SY.num) = kk) := hid (by rw [HSN.out]; unfold lsS; rw [if_pos ⟨HAB, .inr a1⟩])
              clear HSN a0 a1 HAB
              go_wp2
              exact ⟨⟨i + 1, by simp, by rw [HV.out], by omega, by first | trivial | rfl⟩, by simp [numAt]; omega⟩
            · have k1 : (kk < acc) = False := eq_false a1
              have HV : Hid (lsL o ((t.ss.take (i + 1)).map SY.num) = acc) := hid (by rw [HSN.out]; unfold lsS; rw [if_neg (fun h => by have := h.2; omega)])
              clear HSN a0 a1 HAB
              go_wp2
              exact ⟨⟨i + 1, by simp, by rw [HV.out], by omega, by first | trivial | rfl⟩, by simp [numAt]; omega⟩
          · have n0 : ((n : Int) == 0) = false := by simp; omega
            have nb : (n : Int) - 1 = (i' : Int) := by omega
            have nc : (i' : Int) < (n : Int) := by omega
            have hpb : pb < wr.heap.size := World.block_lt_of_cell? _ _ hcell
            have HAB : Hid (aboveB o kk = decide (z < kk)) := hid (by rw [eo]; rfl)
            clear HLC en' eo
            subst ega
            by_cases az : z < kk
            · have kz : (z < kk) = True := eq_true az
              have HAC : aboveB o kk = true := by rw [HAB.out]; exact decide_eq_true az
              clear az HAB
              by_cases a0 : acc < 0
              · have k0 : (acc < 0) = True := eq_true a0
                have HV : Hid (lsL o ((t.ss.take (i + 1)).map SY.num) = kk) := hid (by rw [HSN.out]; unfold lsS; rw [if_pos ⟨HAC, .inl a0⟩])
                clear HSN a0 HAC
                go_wp2
                exact ⟨⟨i + 1, by simp, by rw [HV.out], by omega, by first | trivial | rfl⟩, by simp [numAt]; omega⟩
              have k0 : (acc < 0) = False := eq_false a0
              by_cases a1 : kk < acc
              · have k1 : (kk < acc) = True := eq_true a1
                have HV : Hid (lsL o ((t.ss.take (i + 1)).map SY.num) = kk) := hid (by rw [HSN.out]; unfold lsS; rw [if_pos ⟨HAC, .inr a1⟩])
                clear HSN a0 a1 HAC
                go_wp2
                exact ⟨⟨i + 1, by simp, by rw [HV.out], by omega, by first | trivial | rfl⟩, by simp [numAt]; omega⟩
              · have k1 : (kk < acc) = False := eq_false a1
                have HV : Hid (lsL o ((t.ss.take (i + 1)).map SY.num) = acc) := hid (by rw [HSN.out]; unfold lsS; rw [if_neg (fun h => by have := h.2; omega)])
                clear HSN a0 a1 HAC
                go_wp2
                exact ⟨⟨i + 1, by simp, by rw [HV.out], by omega, by first | trivial | rfl⟩, by simp [numAt]; omega⟩
            · have kz : (z < kk) = False := eq_false az
              have HAC : ¬ aboveB o kk = true := by rw [HAB.out]; simpa using az
              clear HAB
              have HV : Hid (lsL o ((t.ss.take (i + 1)).map SY.num) = acc) := hid (by rw [HSN.out]; unfold lsS; rw [if_neg (fun h => HAC h.1)])
              clear HSN az HAC
              go_wp2
              exact ⟨⟨i + 1, by simp, by rw [HV.out], by omega, by first | trivial | rfl⟩, by simp [numAt]; omega⟩
        · have i1 : ¬ (i : Int) < (N : Int) := by omega
          have e2 : t.ss.take i = t.ss := List.take_of_length_le (by have := eN.out; omega)
          rw [e2]
          have HS0 : Hid (s0 = ⟨lsL o (t.ss.map SY.num), 0⟩) := HNX
          generalize lsL o (t.ss.map SY.num) = acc at *
          obtain ⟨a1, c1, x1, R1, V1, G1⟩ := appendPL W.heap.size (.slice ga n gc) (S.take n) ⟨acc, 0⟩ wr (by rw [HLN.out]; exact HO.out) HK.out.size (by have := HLN.out; omega)
          rw [HLN.out] at R1 V1 G1
          have hq3 : q + 1 + 1 + 1 < W.heap.size := by have := HB.out.2; omega
          have KG : Hid (Keep (fun b => b < W.heap.size) wr x1) := hid (Keep.ofGrow G1.out (fun k hk e => by have := (own_type HO.out e).1; omega))
          have BB1 := hid (BB.out.keep KG.out hq3)
          have KK1 : Hid (Keep (fun b => b ≠ q + 1 + 1 + 1 ∧ b < W.heap.size) W (x1.setCell ⟨q + 1 + 1 + 1, 2, none⟩ (.slice a1 (n + 1) c1))) := hid ((HK.out.trans (KG.out.weak (fun k hk => hk.2))).trans (Keep.setCell _ _ _ (fun h => h.1 rfl)))
          have HO1 : Hid ((x1.setCell ⟨q + 1 + 1 + 1, 2, none⟩ (.slice a1 (n + 1) c1)).ownsRow W.heap.size 61 2 (.slice a1 (n + 1) c1) (n + 1) ((S.take (n + 1)).flatMap cLN)) := hid (by
            have h1 := own_set V1.out (u := .slice a1 (n + 1) c1) (i := 2) hq3
            rw [HTK.out, HS0.out]
            have e3 : (S.take n ++ [(⟨acc, 0⟩ : LN)]).length = n + 1 := by rw [List.length_append, HLN.out]; rfl
            rw [e3] at h1
            exact h1)
          have BB2 : Hid (Blk (x1.setCell ⟨q + 1 + 1 + 1, 2, none⟩ (.slice a1 (n + 1) c1)) (q + 1 + 1 + 1) 28 #[.slice none 0 0, .slice none 0 0, .slice a1 (n + 1) c1]) := hid (by have := BB1.out.set 2 (.slice a1 (n + 1) c1); simpa using this)
          have xb1 := BB1.out.cellF
          have yb1 := BB1.out.frz
          have zb1 := BB1.out.lt
          clear BB BB1 KG V1 G1 HO HK BX1 HR1
          go_wp2_with (first | (at_builtin; refine wpList_append_ran rfl _ _ 26 26 rfl rfl _ _ (.slice a1 (n + 1) c1) x1 rfl rfl R1.out ?_))
          exact ⟨⟨n + 1, a1, c1, by simp, by omega, BB2, HO1, KK1⟩, by simp [numAt]; omega⟩
    · have j1 : ¬ (n : Int) < (N : Int) := by omega
      have en : n = N := by omega
      subst en
      have HST : Hid (S.take n = S ∧ S.length = n) := hid ⟨List.take_of_length_le (by have := hS.out; omega), hS.out⟩
      have BR1 := hid (BR.out.keep HK.out (by have := HB.out.2; omega))
      have xr := BR1.out.cellF
      have yr := BR1.out.frz
      have zr := BR1.out.lt
      clear BX1 HR1 BR BX HR hX hS
      go_wp2
      refine bodyPost_ret (v := .agg #[.slice none 0 0, .slice none 0 0, .slice ga n gc]) (by simp [results, Tryz.results11, go_sem, xr, zr, yr]) rfl ?_
      have hq1 : q + 1 < W.heap.size := by have := HB.out.2; omega
      have hbw : Below q W wr := HK.out.below (by have := HB.out.2; omega) (fun k hk => by have := HB.out.2; omega)
      refine ⟨none, 0, none, 0, ga, gc, by show _ = Ending.returned (.agg #[.slice none 0 0, .slice none 0 0, .slice ga S.length gc]); rw [HST.out.2], ⟨World.ownsRow_nil _ _ _ _, World.ownsRow_nil _ _ _ _, ?_, fun b hb => by simp [Value.ownBlock] at hb⟩, ?_⟩
      · show World.ownsRow _ _ _ _ (.slice ga S.length gc) S.length (S.flatMap cLN)
        rw [HST.out.2]
        have ho := HO.out
        rw [HST.out.1] at ho
        exact own_mono (own_set (own_set (own_set ho hq1) hq1) hq1) (by have := HB.out.2; omega)
      · rw [eq]
        have h1 := HB.out.1
        have h2 : Below q w wr := h1.trans hbw
        have hs : ∀ (V : World) (j : Nat) (v : Value), Keep (fun b => b < q) V (V.setCell ⟨q + 1, j, none⟩ v) := fun V j v => Keep.setCell _ _ _ (by show ¬ q + 1 < q; omega)
        exact h2.trans (Keep.below (((hs _ _ _).trans (hs _ _ _)).trans (hs _ _ _)) (by omega) (fun k hk => hk))
/-- A block and the values of its three lists. -/
structure BV where
  k : BK
  d : Value
  e : Value
  r : Value
def cBV (x : BV) : List Value := [x.d, x.e, x.r]
structure LwO (w : World) (base : Nat) (v : Value) (xs : List BV) : Prop where
  row : w.ownsRow base 28 3 v xs.length (xs.flatMap cBV)
  el : ∀ x ∈ xs, BkO w base x.k x.d x.e x.r
theorem LwO.kept {w w' : World} {base : Nat} {v : Value} {xs : List BV} (h : LwO w base v xs) (g : Below w.heap.size w w') : LwO w' base v xs := ⟨own_kept h.row g, fun x hx => (h.el x hx).kept g⟩
def ProgA (w : World) (ks : List BK) (er : Int) (e : Ending) (w' : World) : Prop := ∃ a c xs, e = .returned (.tuple #[.agg #[.slice a xs.length c], .int .i64 er]) ∧ xs.map BV.k = ks ∧ LwO w' w.heap.size (.slice a xs.length c) xs ∧ Below w.heap.size w w'
def lowP (l : List TV) : List BK := if goodB l = true then l.map (fun x => loBK x.t) else []
def lowPE (l : List TV) : Int := if goodB l = true then 0 else 18
theorem Tryz.infoPB : (Tryz.prog.info? 28).map (fun i => (i.zero, i.size, i.bytes)) = some (some (.agg #[.slice none 0 0, .slice none 0 0, .slice none 0 0]), 3, 72) := by kernel_rfl
/-- One block more. -/
theorem LwO.push {w : World} {base : Nat} {v : Value} {xs : List BV} (h : LwO w base v xs) (hb : base ≤ w.heap.size) (hn : xs.length ≤ 4000000) (k : BK) (da ea ra : Option Addr) (n1 dc n2 ec n3 rc : Nat) (ho : BkO w base k (.slice da n1 dc) (.slice ea n2 ec) (.slice ra n3 rc)) :
    ∃ a c w', Hid ((Builtin.append_ #[32, 32] 32 #[v, .slice (some ⟨w.heap.size, 0, none⟩) 1 1]).run Tryz.prog (w.alloc (.cells #[.slice da n1 dc, .slice ea n2 ec, .slice ra n3 rc] 28)) = .ok (.slice a (xs.length + 1) c) w') ∧ Hid (LwO w' base (.slice a (xs.length + 1) c) (xs ++ [⟨k, .slice da n1 dc, .slice ea n2 ec, .slice ra n3 rc⟩])) ∧ Hid (Grow w w' v (.slice a (xs.length + 1) c)) := by
  obtain ⟨v', w', h1, h2, h3⟩ := append_st 28 32 3 72 (.agg #[.slice none 0 0, .slice none 0 0, .slice none 0 0]) Tryz.underlying32 Tryz.infoPB rfl (by decide) (by decide) base v xs.length (xs.flatMap cBV) w #[.slice da n1 dc, .slice ea n2 ec, .slice ra n3 rc] rfl (fun u hu => by simp at hu; rcases hu with rfl | rfl | rfl <;> rfl) h.row hb hn
  obtain ⟨a, c, rfl⟩ := own_shape h2
  have hk : ∀ {k : BK} {d e r : Value}, BkO w base k d e r → BkO w' base k d e r := fun q => ⟨grow_own h3 h.row q.hd (by decide), grow_own h3 h.row q.he (by decide), grow_own h3 h.row q.hr (by decide), q.ap⟩
  refine ⟨a, c, w', hid h1, hid ⟨by rw [List.flatMap_append, List.length_append]; exact h2, fun x hx => ?_⟩, hid h3⟩
  rcases List.mem_append.1 hx with hx | hx
  · exact hk (h.el x hx)
  · simp at hx
    subst hx
    exact hk ho
theorem own_othP {w : World} {base e size n q j : Nat} {v u : Value} {fl : List Value} (h : w.ownsRow base e size v n fl) {t : TypeId} {cs : Array Value} (hq : Blk w q t cs) (ht : t ≠ e) : (w.setCell ⟨q, j, none⟩ u).ownsRow base e size v n fl :=
  own_keep (f := (· ≠ q)) h (fun k hk e => by
    obtain ⟨_, _, cur, h3⟩ := own_type h hk
    rw [e, show w.heap[q]? = _ from hq] at h3
    cases h3
    exact ht rfl) (Keep.setCell _ _ _ (fun h => h rfl))
theorem lowerT (w : World) (l : List TV) (ta : Option Addr) (tc : Nat) (h : TbR w (.slice ta l.length tc) l) (hk : ∀ x ∈ l, OkV x) (m : Int) (hm : w.cell? ⟨0, 0, none⟩ = some (.int .i64 m)) : Calls Tryz.prog 7 #[.agg #[.slice ta l.length tc]] w (ProgA w (lowP l) (lowPE l)) := by
  obtain ⟨_, _, e, hn⟩ := rowS_sl h.row
  clear e
  have h63 : (l.length : Int) ≤ 9223372036854775807 := by omega
  have HGC : Hid (∀ W, Below w.heap.size w W → Calls Tryz.prog 17 #[.agg #[.slice ta l.length tc]] W fun e w' => e = .returned (.bool (goodB l)) ∧ Below W.heap.size W w') := hid fun W hW => goodT W l ta tc (h.kept hW) hk m (cell_below hm hW)
  cases hg : goodB l with
  | false =>
    have HX : Hid (lowP l = [] ∧ lowPE l = 18) := hid ⟨by unfold lowP; rw [hg]; rfl, by unfold lowPE; rw [hg]; rfl⟩
    rw [HX.out.1, HX.out.2]
    rw [hg] at HGC
    clear h hk hm
    go_enter Tryz.func7, Tryz.ntmps7
    go_wp2_with fail
    refine (HGC.out _ (by exact blBy)).mono ?_
    rintro e w1 ⟨rfl, hb1⟩
    have Br : Blk w1 (w.heap.size + 1) 34 #[.slice none 0 0] := (Blk.newAt (by simp)).kept hb1
    replace hb1 : Hid (Below w.heap.size w w1) := hid (bl_then (by exact blBy) hb1)
    have xr := Br.cellF
    have yr := Br.frz
    have zr := Br.lt
    go_wp2
    refine bodyPost_ret (v := .tuple #[.agg #[.slice none 0 0], .int .i64 18]) (by simp [results, Tryz.results7, go_sem, xr, zr, yr]) rfl ?_
    exact ⟨none, 0, [], rfl, rfl, ⟨World.ownsRow_nil _ _ _ _, by simp⟩, by have := hb1.out; exact blBy⟩
  | true =>
  have HX : Hid (lowP l = l.map (fun x => loBK x.t) ∧ lowPE l = 0) := hid ⟨by unfold lowP; rw [hg]; rfl, by unfold lowPE; rw [hg]; rfl⟩
  rw [HX.out.1, HX.out.2]
  rw [hg] at HGC
  have HL := goodP_len hg
  have HBO : Hid (∀ j (hj : j < l.length) W t fa oa sa ra fc oc sc rc, l[j].t = t → TyR W ⟨t, .slice fa t.fs.length fc, .slice oa t.os.length oc, .slice sa t.ss.length sc, .slice ra t.rs.length rc⟩ → Calls Tryz.prog 18 #[.agg #[.string (strOfNums t.name), .bool t.enum, .slice fa t.fs.length fc, .slice oa t.os.length oc, .slice sa t.ss.length sc, .slice ra t.rs.length rc]] W (BlkA W (loBK t))) := hid fun j hj W t fa oa sa ra fc oc sc rc et ht => blockOfT W l j hg hj t et fa oa sa ra fc oc sc rc ht
  have HT := hid h
  clear h hk hm
  go_enter Tryz.func7, Tryz.ntmps7
  go_wp2_with fail
  refine (HGC.out _ (by exact blBy)).mono ?_
  rintro e w1 ⟨rfl, hb1⟩
  have Ba : Blk w1 w.heap.size 24 #[.slice ta l.length tc] := ((Blk.new _ _ _).kept (below_alloc _)).kept hb1
  have Br : Blk w1 (w.heap.size + 1) 34 #[.slice none 0 0] := (Blk.newAt (by simp)).kept hb1
  replace hb1 : Hid (Below w.heap.size w w1) := hid (bl_then (by exact blBy) hb1)
  have xa := Ba.cellF
  have za := Ba.lt
  go_wp2_with fail
  have HBW : Hid (Below w.heap.size w (w1.alloc (.cells #[.slice none 0 0] 34))) := hid (by have := hb1.out; exact blBy)
  have HBP : Hid (Blk (w1.alloc (.cells #[.slice none 0 0] 34)) w1.heap.size 34 #[.slice none 0 0]) := hid (Blk.new _ _ _)
  have HBR : Hid (Blk (w1.alloc (.cells #[.slice none 0 0] 34)) (w.heap.size + 1) 34 #[.slice none 0 0]) := hid (Br.kept (below_alloc _))
  have hqq : w.heap.size + 1 < w1.heap.size := Br.lt
  clear xa za Ba Br
  generalize w1.alloc (.cells #[.slice none 0 0] 34) = V at *
  generalize w1.heap.size = q at *
  go_loopw [14] (fun r wr => ∃ (j : Nat) (a : Option Addr) (c : Nat) (xs : List BV), r = .int .i64 j ∧ j ≤ l.length ∧ Hid (xs.length = j) ∧ Hid (xs.map BV.k = (l.take j).map (fun x => loBK x.t)) ∧ Hid (LwO wr (w.heap.size + 2) (.slice a j c) xs) ∧ Hid (Blk wr q 34 #[.slice a j c]) ∧ Hid (Blk wr (w.heap.size + 1) 34 #[.slice none 0 0]) ∧ Hid (Below w.heap.size w wr)) (fun r wr => l.length - numAt wr r)
  case atStart => exact ⟨0, none, 0, [], rfl, by omega, hid rfl, hid rfl, hid ⟨World.ownsRow_nil _ _ _ _, by simp⟩, HBP, HBR, HBW⟩
  case round =>
    clear HBP HBR HBW
    obtain ⟨j, a, c, xs, rfl, hj, hxl, hmap, HLW, HBP, HBR, hb⟩ := hrel
    by_cases hlt : j < l.length
    · have h3 : (j : Int) < (l.length : Int) := by omega
      have HTY := hid (HT.out.ty _ (List.getElem_mem hlt))
      have HBJ := hid (HBO.out j hlt)
      have HTK : Hid ((l.take (j + 1)).map (fun x => loBK x.t) = (l.take j).map (fun x => loBK x.t) ++ [loBK l[j].t]) := hid (by rw [List.take_succ_eq_append_getElem hlt, List.map_append]; rfl)
      obtain ⟨tb, tof, etb, hbl, c0, c1, c2, c3, c4, c5⟩ := row6 (HT.out.row.kept hb.out) hlt
      subst etb
      generalize l[j] = x at *
      obtain ⟨t, f, o, s, r⟩ := x
      obtain ⟨fa, fc, ef, -⟩ := rowS_sl HTY.out.f
      obtain ⟨oa, oc, eo, -⟩ := rowS_sl HTY.out.o
      obtain ⟨sa, sc, es, -⟩ := rowS_sl HTY.out.s
      obtain ⟨ra, rc, er, -⟩ := rowS_sl HTY.out.r
      dsimp only at ef eo es er
      subst ef eo es er
      dsimp only at c0 c1 c2 c3 c4 c5 HBJ HTK
      have HBX : Hid (Blk (wr.alloc (.cells #[.string (strOfNums t.name), .bool t.enum, .slice fa t.fs.length fc, .slice oa t.os.length oc, .slice sa t.ss.length sc, .slice ra t.rs.length rc] 50)) wr.heap.size 50 #[.string (strOfNums t.name), .bool t.enum, .slice fa t.fs.length fc, .slice oa t.os.length oc, .slice sa t.ss.length sc, .slice ra t.rs.length rc]) := hid (Blk.new _ _ _)
      have HP1 : Hid (Blk (wr.alloc (.cells #[.string (strOfNums t.name), .bool t.enum, .slice fa t.fs.length fc, .slice oa t.os.length oc, .slice sa t.ss.length sc, .slice ra t.rs.length rc] 50)) q 34 #[.slice a j c]) := hid (HBP.out.kept (below_alloc _))
      have HR1 : Hid (Blk (wr.alloc (.cells #[.string (strOfNums t.name), .bool t.enum, .slice fa t.fs.length fc, .slice oa t.os.length oc, .slice sa t.ss.length sc, .slice ra t.rs.length rc] 50)) (w.heap.size + 1) 34 #[.slice none 0 0]) := hid (HBR.out.kept (below_alloc _))
      have HB1 : Hid (Below w.heap.size w (wr.alloc (.cells #[.string (strOfNums t.name), .bool t.enum, .slice fa t.fs.length fc, .slice oa t.os.length oc, .slice sa t.ss.length sc, .slice ra t.rs.length rc] 50))) := hid (bl_alloc hb.out _)
      have HL1 : Hid (LwO (wr.alloc (.cells #[.string (strOfNums t.name), .bool t.enum, .slice fa t.fs.length fc, .slice oa t.os.length oc, .slice sa t.ss.length sc, .slice ra t.rs.length rc] 50)) (w.heap.size + 2) (.slice a j c) xs) := hid (HLW.out.kept (below_alloc _))
      go_upto_region 7 with fail
      clear c0 c1 c2 c3 c4 c5 HBP HBR hb HLW
      generalize wr.alloc (.cells #[.string (strOfNums t.name), .bool t.enum, .slice fa t.fs.length fc, .slice oa t.os.length oc, .slice sa t.ss.length sc, .slice ra t.rs.length rc] 50) = U at *
      generalize wr.heap.size = qx at *
      have HAP : Hid (∀ W, Below U.heap.size U W → ∀ da dc ea ec ra' rc', BkO W U.heap.size (loBK t) (.slice da (loBK t).dec.length dc) (.slice ea (loBK t).enc.length ec) (.slice ra' (loBK t).rows.length rc') → ∃ a2 c2 w', Hid ((Builtin.append_ #[32, 32] 32 #[.slice a j c, .slice (some ⟨W.heap.size, 0, none⟩) 1 1]).run Tryz.prog (W.alloc (.cells #[.slice da (loBK t).dec.length dc, .slice ea (loBK t).enc.length ec, .slice ra' (loBK t).rows.length rc'] 28)) = .ok (.slice a2 (j + 1) c2) w') ∧ Hid (Blk w' q 34 #[.slice a j c]) ∧ Hid (∃ xs', xs'.length = j + 1 ∧ xs'.map BV.k = (l.take (j + 1)).map (fun x => loBK x.t) ∧ LwO (w'.setCell ⟨q, 0, none⟩ (.slice a2 (j + 1) c2)) (w.heap.size + 2) (.slice a2 (j + 1) c2) xs' ∧ Blk (w'.setCell ⟨q, 0, none⟩ (.slice a2 (j + 1) c2)) q 34 #[.slice a2 (j + 1) c2] ∧ Blk (w'.setCell ⟨q, 0, none⟩ (.slice a2 (j + 1) c2)) (w.heap.size + 1) 34 #[.slice none 0 0] ∧ Below w.heap.size w (w'.setCell ⟨q, 0, none⟩ (.slice a2 (j + 1) c2)))) := hid fun W hW da dc ea ec ra' rc' ho => by
        have hUs : w.heap.size + 2 ≤ U.heap.size := by have := HP1.out.lt; omega
        have hlw := HL1.out.kept hW
        obtain ⟨a2, c2, w', r1, r2, r3⟩ := hlw.push (by have := hW.size; omega) (by have := hxl.out; omega) (loBK t) da ea ra' (loBK t).dec.length dc (loBK t).enc.length ec (loBK t).rows.length rc' (ho.mono hUs)
        rw [hxl.out] at r1 r2 r3
        have hrow : W.ownsRow (w.heap.size + 2) 28 3 (.slice a j c) xs.length (xs.flatMap cBV) := hlw.row
        have b1 := grow_blk r3.out hrow (HP1.out.kept hW) (by decide)
        have b2 := grow_blk r3.out hrow (HR1.out.kept hW) (by decide)
        have ne1 : q ≠ w.heap.size + 1 := by omega
        have hkk : ∀ {k : BK} {d e r : Value}, BkO w' (w.heap.size + 2) k d e r → BkO (w'.setCell ⟨q, 0, none⟩ (.slice a2 (j + 1) c2)) (w.heap.size + 2) k d e r := fun z => ⟨own_othP z.hd b1 (by decide), own_othP z.he b1 (by decide), own_othP z.hr b1 (by decide), z.ap⟩
        refine ⟨a2, c2, w', r1, hid b1, hid ⟨_, ?_, ?_, ⟨own_othP r2.out.row b1 (by decide), fun x hx => hkk (r2.out.el x hx)⟩, (b1.set 0 _).is (by simp), b2.other (a := ⟨q, 0, none⟩) (fun e => ne1 e.symm) _, ?_⟩⟩
        · simp [hxl.out]
        · rw [HTK.out, List.map_append, hmap.out]; rfl
        · refine Below.setCell ((HB1.out.trans (hW.mono (by omega))).trans (r3.out.below (by have := hW.size; omega) (fun k hk => ?_))) (by show w.heap.size ≤ q; omega) _
          have := (own_type hrow hk).1
          omega
      have xb := HBX.out.cellF
      have zb := HBX.out.lt
      have xp := HP1.out.cellF
      have yp := HP1.out.frz
      have zp := HP1.out.lt
      go_region_law (first | (refine step_append_ran rfl _ _ 32 32 rfl rfl _ _ _ _ rfl rfl HRUN.out ?_) | (go_simp; go_wp2_with (go_at_call 18; refine (HBJ.out _ t fa oa sa ra fc oc sc rc rfl (HTY.out.kept (by have := HB1.out; first | exact this | exact bl_drew this))).mono ?_; rintro e u1 ⟨da, dc, ea, ec, ra', rc', rfl, ho, hbx⟩; have HU1 : Hid (Below U.heap.size U u1) := hid (bl_then (below_drew1 _) hbx); obtain ⟨a3, c3, w3, HRUN, HB3, HE⟩ := HAP.out u1 HU1.out da dc ea ec ra' rc' ho; have xp1 := (HP1.out.kept HU1.out).cellF; have zp1 := (HP1.out.kept HU1.out).lt; have xp3 := HB3.out.cellF; have yp3 := HB3.out.frz; have zp3 := HB3.out.lt)))
      all_goals
        obtain ⟨xs', g1, g2, g3, g4, g5, g6⟩ := HE.out
        replace g3 := hid g3
        replace g4 := hid g4
        replace g5 := hid g5
        replace g6 := hid g6
        go_wp2
        exact ⟨⟨j + 1, a3, c3, xs', by simp, by omega, hid g1, hid g2, g3, g4, g5, g6⟩, by simp [numAt]; omega⟩
    · have h3 : ¬ (j : Int) < (l.length : Int) := by omega
      have ej : l.take j = l := List.take_of_length_le (by omega)
      rw [ej] at hmap
      have xr := HBR.out.cellF
      have yr := HBR.out.frz
      have zr := HBR.out.lt
      have xp := HBP.out.cellF
      have zp := HBP.out.lt
      go_wp2
      refine bodyPost_ret (v := .tuple #[.agg #[.slice a j c], .int .i64 0]) (by simp [results, Tryz.results7, go_sem, xr, zr, yr]) rfl ?_
      have hx := hxl.out
      subst hx
      have hk2 : ∀ {k : BK} {d e r : Value}, BkO wr (w.heap.size + 2) k d e r → BkO (wr.setCell ⟨w.heap.size + 1, 0, none⟩ (.slice a xs.length c)) w.heap.size k d e r := fun z => BkO.mono ⟨own_othP z.hd HBR.out (by decide), own_othP z.he HBR.out (by decide), own_othP z.hr HBR.out (by decide), z.ap⟩ (by omega)
      exact ⟨a, c, xs, rfl, hmap.out, ⟨own_mono (own_othP HLW.out.row HBR.out (by decide)) (by omega), fun x hx => hk2 (HLW.out.el x hx)⟩, Below.setCell hb.out (by show w.heap.size ≤ w.heap.size + 1; omega) _⟩
/-- A program, in memory. -/
structure PgR (w : World) (v : Value) (bs : List BV) : Prop where
  row : RowS w AnyZ 3 v bs.length (bs.flatMap cBV)
  el : ∀ x ∈ bs, BkR w x.k x.d x.e x.r
theorem PgR.kept {w w' : World} {v : Value} {bs : List BV} (h : PgR w v bs) (g : Below w.heap.size w w') : PgR w' v bs := ⟨h.row.kept g, fun x hx => (h.el x hx).kept g⟩
theorem LwO.prog {w : World} {base : Nat} {v : Value} {xs : List BV} (h : LwO w base v xs) : PgR w v xs := ⟨own_row h.row (fun _ _ => trivial), fun x hx => (h.el x hx).row⟩
/-- A tag of a field. -/
structure TagOk (t : Int) (n k : Int) : Prop where
  eq : t = tagV n k
  num : 1 ≤ n ∧ n ≤ 536870911
  kind : k = 0 ∨ k = 1 ∨ k = 2 ∨ k = 5
/-- A block that a kind needs. -/
def OfKind (bs : List BV) (kind ref : Int) : Prop := 1 ≤ kind ∧ kind ≤ 17 ∧ ∃ k : Nat, ref = (k : Int) ∧ (kind = 16 → ∃ h : k < bs.length, bs[k].k.dec.length = 0 ∧ bs[k].k.enc.length = 0) ∧ (kind = 17 → ∃ h : k < bs.length, 0 < bs[k].k.dec.length ∧ bs[k].k.dec.length ≤ 100000 ∧ bs[k].k.enc.length ≤ 100000) ∧ (kind ≠ 16 → kind ≠ 17 → ref = 0)
def EnAt (bs : List BV) (k : Nat) : Prop := ∃ h : k < bs.length, bs[k].k.dec.length = 0 ∧ bs[k].k.enc.length = 0
def MsAt (bs : List BV) (k : Nat) : Prop := ∃ h : k < bs.length, 0 < bs[k].k.dec.length ∧ bs[k].k.dec.length ≤ 100000 ∧ bs[k].k.enc.length ≤ 100000
def FdOk (a : Int) : Prop := 1 ≤ a ∧ a ≤ 536870911
/-- A step that reads, at its place. -/
def RdP (bs : List BV) (n i : Nat) (s : IN) : Prop := (s = insV 1 [] ∧ i = 0) ∨ (i ≠ 0 ∧ (s = insV 13 [] ∨ s = insV 4 [0] ∨ (∃ a b m k, s = insV 2 [a, b] ∧ TagOk a m k ∧ (i : Int) < b ∧ b < n) ∨ (∃ a, s = insV 5 [a] ∧ 1 ≤ a ∧ a ≤ 16) ∨ (∃ k : Nat, s = insV 6 [(k : Int)] ∧ EnAt bs k) ∨ (∃ a o, s = insV o [a] ∧ FdOk a ∧ (o = 7 ∨ o = 8 ∨ o = 9)) ∨ (∃ (a c : Int) (k : Nat), s = insV 10 [a, (k : Int), c] ∧ FdOk a ∧ MsAt bs k ∧ (c = 0 ∨ c = 1 ∨ c = 2)) ∨ (∃ a b c, s = insV 11 [a, b, c] ∧ FdOk a ∧ knum b = true ∧ c ≤ 1000 ∧ ((b = 16 ∧ ∃ k : Nat, c = (k : Int) + 1 ∧ EnAt bs k) ∨ (b ≠ 16 ∧ c = 0))) ∨ (∃ a b c d, s = insV 12 [a, b, c, d] ∧ FdOk a ∧ kkey b = true ∧ OfKind bs c d)))
def WrP (bs : List BV) (n i : Nat) (s : IN) : Prop := (s = insV 24 [] ∧ i + 1 = n) ∨ (i + 1 ≠ n ∧ (s = insV 23 [] ∨ (∃ a b c, s = insV 16 [a, b, c] ∧ FdOk a ∧ ((i : Int) < b ∧ b < n) ∧ (c = 0 ∨ (1 ≤ c ∧ c ≤ 16))) ∨ (∃ a m k, s = insV 17 [a] ∧ TagOk a m k) ∨ (∃ a, s = insV 18 [a] ∧ 1 ≤ a ∧ a ≤ 16) ∨ (∃ k : Nat, s = insV 19 [(k : Int)] ∧ MsAt bs k) ∨ (∃ a b c m k, s = insV 20 [a, b, c] ∧ TagOk a m k ∧ OfKind bs b c) ∨ (∃ a b m k, s = insV 21 [a, b] ∧ TagOk a m k ∧ knum b = true) ∨ (∃ a b c d m k, s = insV 22 [a, b, c, d] ∧ TagOk a m k ∧ kkey b = true ∧ OfKind bs c d)))
/-- What is known of a block that is written over. -/
structure AR (V wr : World) (base qa h : Nat) (d e r : Value) (n1 n2 n3 : Nat) : Prop where
  hd : ∃ fl, wr.ownsRow base 59 5 d n1 fl
  he : ∃ fl, wr.ownsRow base 59 5 e n2 fl
  hr : ∃ fl, wr.ownsRow base 61 2 r n3 fl
  kp : Keep (fun b => b < h ∨ qa < b) V wr
  bk : Blk wr qa 28 #[d, e, r]
  ap : ∀ b, d.ownBlock = some b → e.ownBlock ≠ some b
  hb : h ≤ base
  bd : ∀ b, d.ownBlock = some b → b < qa
  be : ∀ b, e.ownBlock = some b → b < qa
  br : ∀ b, r.ownBlock = some b → b < qa
theorem own_ne {w : World} {base e size n q : Nat} {v : Value} {fl : List Value} (h : w.ownsRow base e size v n fl) {t : TypeId} {cs : Array Value} (hq : Blk w q t cs) (ht : t ≠ e) : v.ownBlock ≠ some q := by
  intro hk
  obtain ⟨_, _, cur, h3⟩ := own_type h hk
  rw [show w.heap[q]? = _ from hq] at h3
  cases h3
  exact ht rfl
theorem AR.keep {V wr wr' : World} {base qa h : Nat} {d e r : Value} {n1 n2 n3 : Nat} (H : AR V wr base qa h d e r n1 n2 n3) (g : Below wr.heap.size wr wr') : AR V wr' base qa h d e r n1 n2 n3 := by
  obtain ⟨⟨f1, o1⟩, ⟨f2, o2⟩, ⟨f3, o3⟩, h4, h5, h6, h7, h8, h9, h10⟩ := H
  exact ⟨⟨f1, own_kept o1 g⟩, ⟨f2, own_kept o2 g⟩, ⟨f3, own_kept o3 g⟩, h4.trans (Keep.ofBelow g), h5.kept g, h6, h7, h8, h9, h10⟩
/-- What is known of a good table's field, and of the blocks that it names. -/
structure FGood (bs : List BV) (f : FT) : Prop where
  ok : FOk f
  k16 : f.kind = 16 → EnAt bs f.ref.toNat
  k17 : f.kind = 17 → MsAt bs f.ref.toNat
  k0 : f.kind ≠ 16 → f.kind ≠ 17 → f.ref = 0
  key : f.lab = 5 → kkey f.key = true
  l3 : f.lab = 3 → knum f.kind = true
theorem FGood.of {bs : List BV} {f : FT} (h : FGood bs f) : OfKind bs f.kind f.ref := by
  refine ⟨h.ok.kind.1, h.ok.kind.2, f.ref.toNat, by have := h.ok.ref; omega, fun q => ?_, fun q => ?_, fun q1 q2 => h.k0 q1 q2⟩
  · exact h.k16 q
  · exact h.k17 q
/-- A step that hangs on no place. -/
def RdB (bs : List BV) (s : IN) : Prop := (s = insV 13 [] ∨ s = insV 4 [0] ∨ (∃ a, s = insV 5 [a] ∧ 1 ≤ a ∧ a ≤ 16) ∨ (∃ k : Nat, s = insV 6 [(k : Int)] ∧ EnAt bs k) ∨ (∃ a o, s = insV o [a] ∧ FdOk a ∧ (o = 7 ∨ o = 8 ∨ o = 9)) ∨ (∃ (a c : Int) (k : Nat), s = insV 10 [a, (k : Int), c] ∧ FdOk a ∧ MsAt bs k ∧ (c = 0 ∨ c = 1 ∨ c = 2)) ∨ (∃ a b c, s = insV 11 [a, b, c] ∧ FdOk a ∧ knum b = true ∧ c ≤ 1000 ∧ ((b = 16 ∧ ∃ k : Nat, c = (k : Int) + 1 ∧ EnAt bs k) ∨ (b ≠ 16 ∧ c = 0))) ∨ (∃ a b c d, s = insV 12 [a, b, c, d] ∧ FdOk a ∧ kkey b = true ∧ OfKind bs c d))
theorem RdB.at {bs : List BV} {s : IN} (h : RdB bs s) (n i : Nat) (hi : i ≠ 0) : RdP bs n i s := by
  refine .inr ⟨hi, ?_⟩
  rcases h with h | h | h | h | h | h | h | h
  · exact .inl h
  · exact .inr (.inl h)
  · exact .inr (.inr (.inr (.inl h)))
  · exact .inr (.inr (.inr (.inr (.inl h))))
  · exact .inr (.inr (.inr (.inr (.inr (.inl h)))))
  · exact .inr (.inr (.inr (.inr (.inr (.inr (.inl h))))))
  · exact .inr (.inr (.inr (.inr (.inr (.inr (.inr (.inl h)))))))
  · exact .inr (.inr (.inr (.inr (.inr (.inr (.inr (.inr h)))))))
theorem RdP.mono {bs : List BV} {n n' i : Nat} {s : IN} (h : RdP bs n i s) (hn : n ≤ n') : RdP bs n' i s := by
  rcases h with h | ⟨h0, h⟩
  · exact .inl h
  refine .inr ⟨h0, ?_⟩
  rcases h with h | h | ⟨a, b, m, k, e, t, q1, q2⟩ | h
  · exact .inl h
  · exact .inr (.inl h)
  · exact .inr (.inr (.inl ⟨a, b, m, k, e, t, q1, by omega⟩))
  · exact .inr (.inr (.inr h))
/-- A step that writes, its places at most m. -/
def WrS (bs : List BV) (m i : Nat) (s : IN) : Prop := (s = insV 23 [] ∨ (∃ a b c, s = insV 16 [a, b, c] ∧ FdOk a ∧ ((i : Int) < b ∧ b ≤ m) ∧ (c = 0 ∨ (1 ≤ c ∧ c ≤ 16))) ∨ (∃ a m k, s = insV 17 [a] ∧ TagOk a m k) ∨ (∃ a, s = insV 18 [a] ∧ 1 ≤ a ∧ a ≤ 16) ∨ (∃ k : Nat, s = insV 19 [(k : Int)] ∧ MsAt bs k) ∨ (∃ a b c m k, s = insV 20 [a, b, c] ∧ TagOk a m k ∧ OfKind bs b c) ∨ (∃ a b m k, s = insV 21 [a, b] ∧ TagOk a m k ∧ knum b = true) ∨ (∃ a b c d m k, s = insV 22 [a, b, c, d] ∧ TagOk a m k ∧ kkey b = true ∧ OfKind bs c d))
theorem WrS.at {bs : List BV} {m i n : Nat} {s : IN} (h : WrS bs m i s) (hn : m < n) (hi : i + 1 ≠ n) : WrP bs n i s := by
  refine .inr ⟨hi, ?_⟩
  rcases h with h | ⟨a, b, c, e, f, ⟨q1, q2⟩, q3⟩ | h
  · exact .inl h
  · exact .inr (.inl ⟨a, b, c, e, f, ⟨q1, by omega⟩, q3⟩)
  · exact .inr (.inr h)
theorem WrS.mono {bs : List BV} {m m' i : Nat} {s : IN} (h : WrS bs m i s) (hm : m ≤ m') : WrS bs m' i s := by
  rcases h with h | ⟨a, b, c, e, f, ⟨q1, q2⟩, q3⟩ | h
  · exact .inl h
  · exact .inr (.inl ⟨a, b, c, e, f, ⟨q1, by omega⟩, q3⟩)
  · exact .inr (.inr h)
theorem rows_next {l : List TV} (hg : goodB l = true) {k : Nat} (hkl : k < l.length) (he : l[k].t.enum = true) : ∀ n (hn : n < (rowsL l[k].t.ss).length), (rowsL l[k].t.ss)[n] = ⟨lsL (lastO (rowsL l[k].t.ss) n) (l[k].t.ss.map SY.num), 0⟩ := by
  obtain ⟨h1, h2⟩ := goodP_enum hg hkl he
  have hst := goodP_at hg hkl
  unfold stepB typB at hst
  rw [he] at hst
  simp only [Bool.and_eq_true, if_true] at hst
  have hsy := hst.2.2.2.2
  rw [symB_is h1] at hsy
  simp only [Bool.and_eq_true, decide_eq_true_eq, List.all_eq_true] at hsy
  have hnd : (l[k].t.ss.map SY.num).Nodup := by
    have hdf := hsy.2.2.2.2.2
    have hnd := (dfB_iff _ (fun x hx => by obtain ⟨y, _, rfl⟩ := List.mem_map.1 hx; trivial)).1 hdf
    rw [List.nodup_iff_pairwise_ne] at hnd ⊢
    exact (List.pairwise_map.1 hnd).imp (fun h e => h (by rw [e]))
  have e3 : (l[k].t.ss.map (fun s => (⟨s.num, 0⟩ : LN))).map LN.tag = l[k].t.ss.map SY.num := by rw [List.map_map]; rfl
  have hperm : ((rowsL l[k].t.ss).map LN.tag).Perm (l[k].t.ss.map SY.num) := by rw [← e3]; exact (rowsL_perm l[k].t.ss).map LN.tag
  have hnd2 : ((rowsL l[k].t.ss).map LN.tag).Nodup := hperm.nodup_iff.2 hnd
  have hlt : ((rowsL l[k].t.ss).map LN.tag).Pairwise (· < ·) := by
    rw [List.pairwise_iff_getElem]
    intro i j hi hj hij
    have a1 := List.pairwise_iff_getElem.1 (rowsL_sort l[k].t.ss) i j (by simpa using hi) (by simpa using hj) hij
    have a2 := List.pairwise_iff_getElem.1 hnd2 i j hi hj hij
    simp only [List.getElem_map] at a2 ⊢
    omega
  intro n hn
  have key := lsL_next ((rowsL l[k].t.ss).map LN.tag) (l[k].t.ss.map SY.num) hlt (fun z => hperm.mem_iff) (fun z hz => by
    obtain ⟨s, hs, rfl⟩ := List.mem_map.1 hz
    exact (hsy.2.2.1 s hs).1) n (by simpa using hn)
  have hpl : (rowsL l[k].t.ss)[n].pl = 0 := by
    have := (rowsL_perm l[k].t.ss).mem_iff.1 (List.getElem_mem hn)
    obtain ⟨s, _, e⟩ := List.mem_map.1 this
    rw [← e]
  have htg : (rowsL l[k].t.ss)[n].tag = lsL (lastO (rowsL l[k].t.ss) n) (l[k].t.ss.map SY.num) := by
    rw [List.getElem_map] at key
    exact key.symm
  generalize (rowsL l[k].t.ss)[n] = y at *
  obtain ⟨a, b⟩ := y
  simp only at hpl htg
  rw [hpl, htg]
/-- The document's block of an enum of a good table. -/
theorem lowER (w : World) (l : List TV) (ta : Option Addr) (tc : Nat) (h : TbR w (.slice ta l.length tc) l) (hg : goodB l = true) (k : Nat) (hk : k < l.length) (he : l[k].t.enum = true) : Calls Tryz.prog 11 #[.agg #[.slice ta l.length tc], .int .i64 (k : Int)] w (BlkA w (loBK l[k].t)) := by
  have e : loBK l[k].t = ⟨[], [], rowsL l[k].t.ss⟩ := by unfold loBK; rw [if_pos he]
  rw [e]
  exact lowEnumR w l ta tc h k hk he (rowsL l[k].t.ss) (goodP_enum hg hk he).2 (by rw [(rowsL_perm _).length_eq, List.length_map]) (rows_next hg hk he)
end Go.Proofs.YtbopddnekoocoaaGreatDoor
