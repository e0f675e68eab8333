/-
  The document's Split.
  P4.1, P4.2: the law's walk.
-/
import Derived.Test.YtidimdbnnnpplaaGreatDoorCYP
import Derived.Test.YtidimdbnnnpplaaGreatDoorCYL
namespace Go.Proofs.YtidimdbnnnpplaaGreatDoor
open Go.RowKit
set_option maxRecDepth 1000000
set_option maxHeartbeats 16000000
set_option linter.unusedVariables false
/-- Where a state's block says that it is. -/
def posAt (w : World) (p : Nat) : Nat := match w.cell? ⟨p, 0, none⟩ with
  | some (.int _ n) => n.toNat
  | _ => 0
theorem posAt_is {w : World} {p i : Nat} (h : w.cell? ⟨p, 0, none⟩ = some (.int .i64 i)) : posAt w p = i := by unfold posAt; rw [h]; simp
/-- How far the document's loop is: Q the answer's fault, p the state. -/
structure RI (w wr : World) (xs : List Int) (vo : Value) (j : Nat) (wds : List Wd) (ws : List (Mw × Value)) : Prop where
  st : Blk wr (w.heap.size + 1) 114 #[.int .i64 j, .int .i64 (lnA xs j), .int .i64 (clA xs j)]
  fl : Blk wr w.heap.size 28 #[.int .i64 0, .int .i64 0, .int .i64 0, .int .i64 0]
  kp : Kp wr (w.heap.size + 2) (w.heap.size + 1) 58 vo ws
  is : ws.map Prod.fst = wds.map (mw xs)
  bel : Below w.heap.size w wr
  sz : w.heap.size + 2 ≤ wr.heap.size
  le : j ≤ xs.length
  cnt : ws.length ≤ j
  lx : lxAt xs j wds = lx xs
/-- One word more. -/
theorem refAppend {w w6 : World} {vo : Value} {ws : List (Mw × Value)} (x : Mw) (a : Option Addr) (c : Nat) {cp cq : Array Value} (hk : Kp w6 (w.heap.size + 2) (w.heap.size + 1) 58 vo ws) (hp : Blk w6 (w.heap.size + 1) 114 cp) (hq : Blk w6 w.heap.size 28 cq) (hs : w.heap.size + 2 ≤ w6.heap.size) (hn : ws.length ≤ 70000) (hr : Reads w6 a x.b.length c x.b) (ho : Off (w.heap.size + 1) vo x.b.length a) (hb : Below w.heap.size w w6) :
    ∃ la ln lc w7, (Builtin.append_ #[50, 50] 50 #[vo, .slice (some ⟨w6.heap.size, 0, none⟩) 1 1]).run Tryz.prog (w6.alloc (.cells #[.int .i64 x.kind, .string (strOfNums x.s), .int .u64 x.n, .slice a x.b.length c, .int .i64 x.line, .int .i64 x.col] 58)) = .ok (.slice la ln lc) w7 ∧
      Kp w7 (w.heap.size + 2) (w.heap.size + 1) 58 (.slice la ln lc) (ws ++ [(x, .slice a x.b.length c)]) ∧ Blk w7 (w.heap.size + 1) 114 cp ∧ Blk w7 w.heap.size 28 cq ∧ Below w.heap.size w w7 ∧ w6.heap.size ≤ w7.heap.size := by
  obtain ⟨l', w7, hrun, hK, hG⟩ := append_word 58 50 Tryz.underlying50 Tryz.info58 (w.heap.size + 2) (w.heap.size + 1) vo ws w6 x a c hk hs hn (by omega) hr ho
  obtain ⟨la, lc, hl⟩ := own_shape hK.row
  obtain ⟨ln, hln⟩ : ∃ ln, (ws ++ [(x, Value.slice a x.b.length c)]).length = ln := ⟨_, rfl⟩
  rw [hln] at hl
  subst hl
  have hKe : Keep (fun k => vo.ownBlock ≠ some k) w6 w7 := Keep.ofGrow hG (fun k hk => hk)
  refine ⟨la, ln, lc, w7, hrun, hK, hp.keep hKe hk.np, hq.keep hKe (fun e => ?_), hb.trans (hKe.below (by omega) (fun k hk2 e => ?_)), hG.size⟩
  · have := (hk.row.lt _ e).1; omega
  · have := (hk.row.lt _ e).1; omega
theorem refBig (xs : List Int) (w : World) (h : 65536 < xs.length) (hm : xs.length ≤ 9223372036854775807) : Calls Tryz.prog 16 #[.string (strOfNums xs)] w fun e w' => SplitG w (outE xs) e w' := by
  have HE : Hid (outE xs = ([], 1, 0, 0)) := hid (by unfold outE; rw [if_pos h])
  have hs : (strOfNums xs).size = xs.length := strOfNums_size xs
  have h1 : (65536 : Int) < (xs.length : Int) := by omega
  have h2 : (xs.length : Int) ≤ 9223372036854775807 := by omega
  clear h hm
  generalize xs.length = n at *
  go_enter Tryz.func16, Tryz.ntmps16
  go_wp2
  exact bodyPost_ret (v := .tuple #[.slice none 0 0, .agg #[.int .i64 1, .int .i64 0, .int .i64 0, .int .i64 0]]) (by simp [results, Tryz.results16, go_sem]) rfl ⟨none, 0, by rw [HE.out]; rfl, by rw [HE.out]; exact readsW_nil _, below_alloc _⟩
theorem outE_bad {xs : List Int} {c : Int} {j : Nat} (hl : xs.length ≤ 65536) (hc : c ≠ 0) (h : lx xs = ⟨[], c, j⟩) : outE xs = ([], c, lnA xs j, clA xs j) := by
  unfold outE
  rw [if_neg (by omega), h, if_neg hc]
/-- A token that is no blank and no comment. -/
theorem tok_word4 {xs : List Int} {j : Nat} (hb : isBl (bt xs j) = false) (h47 : bt xs j = 47 → bt xs (j + 1) ≠ 47 ∧ bt xs (j + 1) ≠ 42) : tok xs j = if letB (bt xs j) = true then .word 1 (sc namB xs (j + 1)) 0 [] else if digB (bt xs j) = true then tokN xs j else if bt xs j = 34 then tokQ xs j else if sgnB (bt xs j) = true then .word 4 (j + 1) 0 [] else .bad 11 := by
  unfold tok
  rw [if_neg (by simp [hb])]
  by_cases h : bt xs j = 47
  · rw [if_pos h, h]
    obtain ⟨h1, h2⟩ := h47 h
    unfold tokC
    rw [if_neg h1, if_neg h2]
    rfl
  · rw [if_neg h]
/-- What lies above: the fault and the word of this round. -/
structure Mid (w2 X : World) (L C : Int) (cs : Array Value) : Prop where
  b : Below w2.heap.size w2 X
  fb : Blk X w2.heap.size 28 #[.int .i64 11, .int .i64 0, .int .i64 L, .int .i64 C]
  wb : Blk X (w2.heap.size + 1) 58 cs
theorem Mid.setW {w2 X : World} {L C : Int} {cs : Array Value} (h : Mid w2 X L C cs) (i : Nat) (v : Value) {cs' : Array Value} (e : cs.setIfInBounds i v = cs') : Mid w2 (X.setCell ⟨w2.heap.size + 1, i, none⟩ v) L C cs' :=
  ⟨h.b.setCell (by simp) _, h.fb.other (by simp) _, Blk.is (h.wb.set i v) e⟩
theorem Mid.kept {w2 X Y : World} {L C : Int} {cs : Array Value} (h : Mid w2 X L C cs) (hb : Below X.heap.size X Y) : Mid w2 Y L C cs :=
  ⟨h.b.trans (hb.mono h.b.size), h.fb.kept hb, h.wb.kept hb⟩
theorem Mid.new (w2 : World) (L C : Int) (cs : Array Value) : Mid w2 ((w2.alloc (.cells #[.int .i64 11, .int .i64 0, .int .i64 L, .int .i64 C] 28)).alloc (.cells cs 58)) L C cs := by
  refine ⟨below_trans (below_alloc _) (below_alloc _), (Blk.new w2 _ _).kept (below_alloc _), ?_⟩
  have := Blk.new (w2.alloc (.cells #[.int .i64 11, .int .i64 0, .int .i64 L, .int .i64 C] 28)) 58 cs
  rw [World.size_alloc] at this
  exact this
theorem tokN_cases (xs : List Int) (i : Nat) : tokN xs i = .bad 11 ∨ tokN xs i = .bad 7 ∨ ∃ k n, tokN xs i = .word 2 k n [] := by
  unfold tokN
  split
  · exact .inl rfl
  · split
    · exact .inr (.inl rfl)
    · exact .inr (.inr ⟨_, _, rfl⟩)
theorem refIn (xs : List Int) (w : World) (hb : ∀ x ∈ xs, 0 ≤ x ∧ x ≤ 255) (hl : xs.length ≤ 65536) : Calls Tryz.prog 16 #[.string (strOfNums xs)] w fun e w' => SplitG w (outE xs) e w' := by
  have hz : (strOfNums xs).size = xs.length := strOfNums_size xs
  have h1 : (xs.length : Int) ≤ 65536 := by omega
  have HBB := hid hb
  have HIX := hid (fun j (hj : j < xs.length) => bt_index hb j hj .i64)
  have HEX : Hid (∀ a b, (strOfNums xs).extract a b = strOfNums (cut xs a b)) := hid (fun a b => str_cut xs a b)
  clear hb
  go_enter Tryz.func16, Tryz.ntmps16
  go_wp2
  go_loopw [4] (fun vo wr => ∃ (j : Nat) (wds : List Wd) (ws : List (Mw × Value)), Hid (RI w wr xs vo j wds ws)) (fun _ wr => xs.length - posAt wr (w.heap.size + 1))
  case atStart =>
    refine ⟨0, [], [], hid ⟨?_, (Blk.new w _ _).kept (below_alloc _), Kp.nil _ _ _ _, rfl, below_trans (below_alloc _) (below_alloc _), by simp, by omega, by simp, rfl⟩⟩
    have := Blk.new (w.alloc (.cells #[.int .i64 0, .int .i64 0, .int .i64 0, .int .i64 0] 28)) 114 #[.int .i64 0, .int .i64 1, .int .i64 1]
    rw [World.size_alloc] at this
    exact this
  case round =>
    obtain ⟨j, wds, ws, HI⟩ := hrel
    have hjl := HI.out.le
    have c0 : wr.cell? ⟨w.heap.size + 1, 0, none⟩ = some (.int .i64 j) := HI.out.st.cell 0 _ rfl
    have c1 : wr.cell? ⟨w.heap.size + 1, 1, none⟩ = some (.int .i64 (lnA xs j)) := HI.out.st.cell 1 _ rfl
    have c2 : wr.cell? ⟨w.heap.size + 1, 2, none⟩ = some (.int .i64 (clA xs j)) := HI.out.st.cell 2 _ rfl
    have HPJ := hid (posAt_is c0)
    have hsz := HI.out.sz
    go_wp2_with fail
    refine (spaceR xs j _ HBB.out hjl hl).mono ?_
    rintro e wr' ⟨⟨k, ok, rfl, hjk, hkl, hor⟩, rfl⟩
    go_wp2_with fail
    refine (toR xs j _ k HBB.out hjk hkl hl).mono ?_
    rintro e w1 ⟨rfl, B1⟩
    have S1 := HI.out.st.kept B1
    have F1 := HI.out.fl.kept B1
    have K1 := HI.out.kp.kept B1
    have hs1 : w.heap.size + 2 ≤ w1.heap.size := Nat.le_trans hsz B1.size
    have BB1 : Below w.heap.size w w1 := HI.out.bel.trans (B1.mono (by omega))
    have d0 := S1.cell 0 _ rfl
    have d1 := S1.cell 1 _ rfl
    have d2 := S1.cell 2 _ rfl
    have g0 := S1.frozen 0
    have g1 := S1.frozen 1
    have g2 := S1.frozen 2
    obtain ⟨w2, hw2⟩ : ∃ w2, (((w1.setCell ⟨w.heap.size + 1, 0, none⟩ (.int .i64 k)).setCell ⟨w.heap.size + 1, 1, none⟩ (.int .i64 (lnA xs k))).setCell ⟨w.heap.size + 1, 2, none⟩ (.int .i64 (clA xs k))) = w2 := ⟨_, rfl⟩
    have KE2 : Keep (· ≠ w.heap.size + 1) w1 w2 := by
      rw [← hw2]
      exact ((Keep.setCell _ _ _ (by simp)).trans (Keep.setCell _ _ _ (by simp))).trans (Keep.setCell _ _ _ (by simp))
    have S2 : Blk w2 (w.heap.size + 1) 114 #[.int .i64 k, .int .i64 (lnA xs k), .int .i64 (clA xs k)] := by
      rw [← hw2]
      exact Blk.is (((S1.set 0 _).set 1 _).set 2 _) (by simp)
    have F2 : Blk w2 w.heap.size 28 #[.int .i64 0, .int .i64 0, .int .i64 0, .int .i64 0] := F1.keep KE2 (by simp)
    have K2 := K1.keep KE2
    have BB2 : Below w.heap.size w w2 := BB1.trans (KE2.below (by omega) (fun k hk => by omega))
    have hs2 : w.heap.size + 2 ≤ w2.heap.size := Nat.le_trans hs1 KE2.size
    have hlt0 : w.heap.size < w2.heap.size := by omega
    have hlt1 : w.heap.size + 1 < w2.heap.size := by omega
    have e1 : w2.cell? ⟨w.heap.size + 1, 1, none⟩ = some (.int .i64 (lnA xs k)) := S2.cell 1 _ rfl
    have e2 : w2.cell? ⟨w.heap.size + 1, 2, none⟩ = some (.int .i64 (clA xs k)) := S2.cell 2 _ rfl
    have q0 : w2.cell? ⟨w.heap.size, 0, none⟩ = some (.int .i64 0) := F2.cell 0 _ rfl
    have q1 : w2.cell? ⟨w.heap.size, 1, none⟩ = some (.int .i64 0) := F2.cell 1 _ rfl
    have q2 : w2.cell? ⟨w.heap.size, 2, none⟩ = some (.int .i64 0) := F2.cell 2 _ rfl
    have q3 : w2.cell? ⟨w.heap.size, 3, none⟩ = some (.int .i64 0) := F2.cell 3 _ rfl
    have r0 := F2.frozen 0
    have r1 := F2.frozen 1
    have r2 := F2.frozen 2
    have r3 := F2.frozen 3
    have HS2 := hid S2
    have HF2 := hid F2
    have HK2 := hid K2
    have HB2 := hid BB2
    have HIS := hid HI.out.is
    have HCN := hid HI.out.cnt
    have HLX := hid HI.out.lx
    clear S1 F1 K1 BB1 S2 F2 K2 BB2 KE2 B1 HI hsz c0 c1 c2 hs1
    rcases hor with ⟨rfl, hlx, hstop⟩ | ⟨rfl, hkn, hlx⟩
    · have HLK : Hid (lxAt xs k wds = lx xs) := hid (by rw [← hlx wds]; exact HLX.out)
      clear hlx
      by_cases hke : k = xs.length
      · have HE : Hid (outE xs = ((wds ++ [(⟨5, k, k, 0, []⟩ : Wd)]).map (mw xs), 0, 0, 0)) := hid (by unfold outE; rw [if_neg (by omega), ← HLK.out, lxAt_end hke]; rfl)
        have M3 : Below w2.heap.size w2 (w2.alloc (.cells #[.int .i64 11, .int .i64 0, .int .i64 (lnA xs k), .int .i64 (clA xs k)] 28)) := below_alloc _
        obtain ⟨X3, hX3⟩ : ∃ X3, w2.alloc (.cells #[.int .i64 11, .int .i64 0, .int .i64 (lnA xs k), .int .i64 (clA xs k)] 28) = X3 := ⟨_, rfl⟩
        rw [hX3] at M3
        obtain ⟨la, ln, lc, X7, hrun, hK7, hS7, hF7, hB7, hz7⟩ := refAppend (w := w) ⟨5, [], 0, [], lnA xs k, clA xs k⟩ none 0 (HK2.out.kept M3) (HS2.out.kept M3) (HF2.out.kept M3) (Nat.le_trans hs2 M3.size) (by have := HCN.out; omega) (reads_nil _) (fun y hy => by cases hy) (HB2.out.trans (M3.mono (by omega)))
        have HRUN : Hid ((Builtin.append_ #[50, 50] 50 #[u4, .slice (some ⟨X3.heap.size, 0, none⟩) 1 1]).run Tryz.prog (X3.alloc (.cells #[.int .i64 5, .string ⟨#[]⟩, .int .u64 0, .slice none 0 0, .int .i64 (lnA xs k), .int .i64 (clA xs k)] 58)) = .ok (.slice la ln lc) X7) := hid hrun
        obtain ⟨a7, c7, hv7, hrd7⟩ := kp_reads hK7
        have HRD : Hid (ReadsW X7 la ln lc ((wds ++ [(⟨5, k, k, 0, []⟩ : Wd)]).map (mw xs))) := hid (by
          injection hv7 with e1 e2 e3
          subst e1 e2 e3
          rw [List.map_append, ← HIS.out]
          rw [List.map_append] at hrd7
          have : mw xs (⟨5, k, k, 0, []⟩ : Wd) = ⟨5, [], 0, [], lnA xs k, clA xs k⟩ := by unfold mw; rw [cut_nil]
          simp only [List.map_cons, List.map_nil, this]
          exact hrd7)
        have HLN : Hid (((wds ++ [(⟨5, k, k, 0, []⟩ : Wd)]).map (mw xs)).length = ln) := hid HRD.out.length
        have HB7 := hid hB7
        have HF7 := hid hF7
        have x1 : X3.cell? ⟨w.heap.size + 1, 1, none⟩ = some (.int .i64 (lnA xs k)) := (HS2.out.kept M3).cell 1 _ rfl
        have x2 : X3.cell? ⟨w.heap.size + 1, 2, none⟩ = some (.int .i64 (clA xs k)) := (HS2.out.kept M3).cell 2 _ rfl
        have t0 : X7.cell? ⟨w.heap.size, 0, none⟩ = some (.int .i64 0) := HF7.out.cell 0 _ rfl
        have t1 : X7.cell? ⟨w.heap.size, 1, none⟩ = some (.int .i64 0) := HF7.out.cell 1 _ rfl
        have t2 : X7.cell? ⟨w.heap.size, 2, none⟩ = some (.int .i64 0) := HF7.out.cell 2 _ rfl
        have t3 : X7.cell? ⟨w.heap.size, 3, none⟩ = some (.int .i64 0) := HF7.out.cell 3 _ rfl
        have u0 := HF7.out.frozen 0
        have u1 := HF7.out.frozen 1
        have u2 := HF7.out.frozen 2
        have u3 := HF7.out.frozen 3
        have hke2 : ((k : Int) == (xs.length : Int)) = true := by simp; omega
        clear hrun hK7 hS7 hF7 hB7 hv7 hrd7 hke M3 hstop
        go_wp2_with (first | (at_builtin; refine wpList_append_ran rfl _ _ 50 50 rfl rfl _ _ (.slice la ln lc) X7 rfl rfl HRUN.out ?_))
        rw [set_same (v := .int .i64 0) HF7.out 0 rfl, set_same (v := .int .i64 0) HF7.out 1 rfl, set_same (v := .int .i64 0) HF7.out 2 rfl, set_same (v := .int .i64 0) HF7.out 3 rfl]
        exact bodyPost_ret (v := .tuple #[.slice la ln lc, .agg #[.int .i64 0, .int .i64 0, .int .i64 0, .int .i64 0]]) (by simp [results, Tryz.results16, go_sem, t0, t1, t2, t3]) rfl ⟨la, lc, by rw [HE.out, HLN.out], by rw [HE.out, HLN.out]; exact HRD.out, HB7.out⟩
      have hkn : k < xs.length := by omega
      have hke2 : ((k : Int) == (xs.length : Int)) = false := by simp; omega
      obtain ⟨hbl, h47⟩ := hstop hkn
      have HTW := hid (tok_word4 hbl h47)
      have hix := HIX.out k hkn
      clear hke hstop hbl h47
      obtain ⟨X4, hX4⟩ : ∃ X4, (w2.alloc (.cells #[.int .i64 11, .int .i64 0, .int .i64 (lnA xs k), .int .i64 (clA xs k)] 28)).alloc (.cells #[.int .i64 0, .string ⟨#[]⟩, .int .u64 0, .slice none 0 0, .int .i64 (lnA xs k), .int .i64 (clA xs k)] 58) = X4 := ⟨_, rfl⟩
      have M4 : Hid (Mid w2 X4 (lnA xs k) (clA xs k) #[.int .i64 0, .string ⟨#[]⟩, .int .u64 0, .slice none 0 0, .int .i64 (lnA xs k), .int .i64 (clA xs k)]) := hid (by rw [← hX4]; exact Mid.new _ _ _ _)
      go_wp2_with fail
      try rw [hX4]
      refine (letterR (bt xs k) _).mono ?_
      rintro e X4' ⟨rfl, rfl⟩
      clear hX4
      have w0 : X4.cell? ⟨w2.heap.size + 1, 0, none⟩ = some (.int .i64 0) := M4.out.wb.cell 0 _ rfl
      have wf := M4.out.wb.frozen 0
      cases hlt : letB (bt xs k) with
      | true =>
        have HTK : Hid (tok xs k = .word 1 (sc namB xs (k + 1)) 0 []) := hid (by rw [HTW.out, if_pos hlt])
        obtain ⟨X5, hX5⟩ : ∃ X5, X4.setCell ⟨w2.heap.size + 1, 0, none⟩ (.int .i64 1) = X5 := ⟨_, rfl⟩
        have M5 : Hid (Mid w2 X5 (lnA xs k) (clA xs k) #[.int .i64 1, .string ⟨#[]⟩, .int .u64 0, .slice none 0 0, .int .i64 (lnA xs k), .int .i64 (clA xs k)]) := hid (by rw [← hX5]; exact M4.out.setW 0 _ (by simp))
        clear hlt HTW
        go_wp2
        go_loop [11] (fun ve => ∃ m : Nat, ve = .int .i64 m ∧ k + 1 ≤ m ∧ m ≤ xs.length ∧ Hid (sc namB xs m = sc namB xs (k + 1))) (fun ve => xs.length - (intOf ve).toNat)
        case atStart => exact ⟨k + 1, by go_num, Nat.le_refl _, by omega, hid rfl⟩
        case round =>
          obtain ⟨m, rfl, hm1, hm2, HM⟩ := hrel
          by_cases hmlt : m < xs.length
          · have hixm := HIX.out m hmlt
            cases hlm : letB (bt xs m) with
            | true =>
              have HM2 : Hid (sc namB xs (m + 1) = sc namB xs (k + 1)) := hid (by rw [← HM.out, ← sc_step hmlt (by simp [namB, hlm])])
              have HLE := hid (letterR (bt xs m))
              rw [hlm] at HLE
              clear hlm
              go_wp2_with (go_at_call 40; refine (HLE.out _).mono ?_; rintro e w1 ⟨rfl, rfl⟩)
              exact ⟨⟨m + 1, by go_num, by omega, by omega, HM2⟩, by simp [intOf]; omega⟩
            | false =>
              have HLE := hid (letterR (bt xs m))
              have HDI := hid (ldigitR (bt xs m))
              rw [hlm] at HLE
              cases hdm : digB (bt xs m) with
              | true =>
                have HM2 : Hid (sc namB xs (m + 1) = sc namB xs (k + 1)) := hid (by rw [← HM.out, ← sc_step hmlt (by simp [namB, hdm])])
                rw [hdm] at HDI
                clear hlm hdm
                go_wp2_with (first | (go_at_call 40; refine (HLE.out _).mono ?_; rintro e w1 ⟨rfl, rfl⟩) | (go_at_call 41; refine (HDI.out _).mono ?_; rintro e w1 ⟨rfl, rfl⟩))
                exact ⟨⟨m + 1, by go_num, by omega, by omega, HM2⟩, by simp [intOf]; omega⟩
              | false =>
                have hmE : sc namB xs (k + 1) = m := by rw [← HM.out, sc_stop (by simp [namB, hlm, hdm])]
                rw [hmE] at HTK
                rw [hdm] at HDI
                clear hlm hdm hmE HM
                obtain ⟨X6, hX6⟩ : ∃ X6, X5.setCell ⟨w2.heap.size + 1, 1, none⟩ (.string (strOfNums (cut xs k m))) = X6 := ⟨_, rfl⟩
                have M6 : Mid w2 X6 (lnA xs k) (clA xs k) #[.int .i64 1, .string (strOfNums (cut xs k m)), .int .u64 0, .slice none 0 0, .int .i64 (lnA xs k), .int .i64 (clA xs k)] := by
                  rw [← hX6]
                  exact M5.out.setW 1 _ (by simp)
                have hcut := HEX.out k m
                have hmk : (k : Int) ≤ (m : Int) := by omega
                have hmn : (m : Int) ≤ (xs.length : Int) := by omega
                obtain ⟨la, ln, lc, X7, hrun, hK7, hS7, hF7, hB7, hz7⟩ := refAppend (w := w) ⟨1, cut xs k m, 0, [], lnA xs k, clA xs k⟩ none 0 (HK2.out.kept M6.b) (HS2.out.kept M6.b) (HF2.out.kept M6.b) (Nat.le_trans hs2 M6.b.size) (by have := HCN.out; omega) (reads_nil _) (fun y hy => by cases hy) (HB2.out.trans (M6.b.mono (by omega)))
                dsimp only at hrun
                have HRUN := hid hrun
                have HK7 := hid hK7
                have HS7 := hid hS7
                have HF7 := hid hF7
                have HB7 := hid hB7
                have f1 : X5.frozen? ⟨w2.heap.size + 1, 1, none⟩ = false := M5.out.wb.frozen 1
                have y1 : ∃ v, X5.cell? ⟨w2.heap.size + 1, 1, none⟩ = some v := ⟨_, M5.out.wb.cell 1 _ rfl⟩
                have z0 : X6.cell? ⟨w2.heap.size + 1, 0, none⟩ = some (.int .i64 1) := M6.wb.cell 0 _ rfl
                have z1 : X6.cell? ⟨w2.heap.size + 1, 1, none⟩ = some (.string (strOfNums (cut xs k m))) := M6.wb.cell 1 _ rfl
                have z2 : X6.cell? ⟨w2.heap.size + 1, 2, none⟩ = some (.int .u64 0) := M6.wb.cell 2 _ rfl
                have z3 : X6.cell? ⟨w2.heap.size + 1, 3, none⟩ = some (.slice none 0 0) := M6.wb.cell 3 _ rfl
                have z4 : X6.cell? ⟨w2.heap.size + 1, 4, none⟩ = some (.int .i64 (lnA xs k)) := M6.wb.cell 4 _ rfl
                have z5 : X6.cell? ⟨w2.heap.size + 1, 5, none⟩ = some (.int .i64 (clA xs k)) := M6.wb.cell 5 _ rfl
                have p0 : X7.cell? ⟨w.heap.size + 1, 0, none⟩ = some (.int .i64 k) := HS7.out.cell 0 _ rfl
                have p1 : X7.cell? ⟨w.heap.size + 1, 1, none⟩ = some (.int .i64 (lnA xs k)) := HS7.out.cell 1 _ rfl
                have p2 : X7.cell? ⟨w.heap.size + 1, 2, none⟩ = some (.int .i64 (clA xs k)) := HS7.out.cell 2 _ rfl
                clear hrun hK7 hS7 hF7 hB7
                obtain ⟨yv, y1⟩ := y1
                go_wp2_with (first | (go_at_call 40; refine (HLE.out _).mono ?_; rintro e w1 ⟨rfl, rfl⟩) | (go_at_call 41; refine (HDI.out _).mono ?_; rintro e w1 ⟨rfl, rfl⟩) | (at_builtin; refine wpList_append_ran rfl _ _ 50 50 rfl rfl _ _ (.slice la ln lc) X7 rfl rfl HRUN.out ?_))
                refine (toR xs k _ m HBB.out (by omega) (by omega) hl).mono ?_
                rintro e X8 ⟨rfl, B8⟩
                have S8 := HS7.out.kept B8
                have g0 := S8.frozen 0
                have g1 := S8.frozen 1
                have g2 := S8.frozen 2
                have v0 := S8.cell 0 _ rfl
                have v1 := S8.cell 1 _ rfl
                have v2 := S8.cell 2 _ rfl
                obtain ⟨X9, hX9⟩ : ∃ X9, (((X8.setCell ⟨w.heap.size + 1, 0, none⟩ (.int .i64 m)).setCell ⟨w.heap.size + 1, 1, none⟩ (.int .i64 (lnA xs m))).setCell ⟨w.heap.size + 1, 2, none⟩ (.int .i64 (clA xs m))) = X9 := ⟨_, rfl⟩
                have KE9 : Keep (· ≠ w.heap.size + 1) X8 X9 := by
                  rw [← hX9]
                  exact ((Keep.setCell _ _ _ (by simp)).trans (Keep.setCell _ _ _ (by simp))).trans (Keep.setCell _ _ _ (by simp))
                have S9 : Blk X9 (w.heap.size + 1) 114 #[.int .i64 m, .int .i64 (lnA xs m), .int .i64 (clA xs m)] := by
                  rw [← hX9]
                  exact Blk.is (((S8.set 0 _).set 1 _).set 2 _) (by simp)
                have hs7 : w.heap.size + 2 ≤ X7.heap.size := Nat.le_trans (Nat.le_trans hs2 M6.b.size) hz7
                have HR9 : Hid (RI w X9 xs (.slice la ln lc) m (wds ++ [⟨1, k, m, 0, []⟩]) (ws ++ [(⟨1, cut xs k m, 0, [], lnA xs k, clA xs k⟩, .slice none 0 0)])) := hid ⟨S9, (HF7.out.kept B8).keep KE9 (by simp), (HK7.out.kept B8).keep KE9, (by rw [List.map_append, List.map_append, HIS.out]; rfl), (HB7.out.trans (B8.mono (by omega))).trans (KE9.below (by have := B8.size; omega) (fun k hk => by omega)), Nat.le_trans hs7 (Nat.le_trans B8.size KE9.size), by omega, (by have := HCN.out; simp; omega), (by rw [← HLK.out, lxAt_word hkn HTK.out])⟩
                have HP9 := hid (posAt_is (S9.cell 0 _ rfl))
                clear S8 S9 KE9 B8
                go_wp2
                refine ⟨⟨m, _, _, HR9⟩, ?_⟩
                rw [HPJ.out, HP9.out]
                omega
          · have hmE : sc namB xs (k + 1) = m := by rw [← HM.out, sc_end (by omega)]
            rw [hmE] at HTK
            have hml : m = xs.length := by omega
            have hmi : ¬ (m : Int) < (xs.length : Int) := by omega
            clear hmE HM hml
            obtain ⟨X6, hX6⟩ : ∃ X6, X5.setCell ⟨w2.heap.size + 1, 1, none⟩ (.string (strOfNums (cut xs k m))) = X6 := ⟨_, rfl⟩
            have M6 : Mid w2 X6 (lnA xs k) (clA xs k) #[.int .i64 1, .string (strOfNums (cut xs k m)), .int .u64 0, .slice none 0 0, .int .i64 (lnA xs k), .int .i64 (clA xs k)] := by
              rw [← hX6]
              exact M5.out.setW 1 _ (by simp)
            have hcut := HEX.out k m
            have hmk : (k : Int) ≤ (m : Int) := by omega
            have hmn : (m : Int) ≤ (xs.length : Int) := by omega
            obtain ⟨la, ln, lc, X7, hrun, hK7, hS7, hF7, hB7, hz7⟩ := refAppend (w := w) ⟨1, cut xs k m, 0, [], lnA xs k, clA xs k⟩ none 0 (HK2.out.kept M6.b) (HS2.out.kept M6.b) (HF2.out.kept M6.b) (Nat.le_trans hs2 M6.b.size) (by have := HCN.out; omega) (reads_nil _) (fun y hy => by cases hy) (HB2.out.trans (M6.b.mono (by omega)))
            dsimp only at hrun
            have HRUN := hid hrun
            have HK7 := hid hK7
            have HS7 := hid hS7
            have HF7 := hid hF7
            have HB7 := hid hB7
            have f1 : X5.frozen? ⟨w2.heap.size + 1, 1, none⟩ = false := M5.out.wb.frozen 1
            have y1 : ∃ v, X5.cell? ⟨w2.heap.size + 1, 1, none⟩ = some v := ⟨_, M5.out.wb.cell 1 _ rfl⟩
            have z0 : X6.cell? ⟨w2.heap.size + 1, 0, none⟩ = some (.int .i64 1) := M6.wb.cell 0 _ rfl
            have z1 : X6.cell? ⟨w2.heap.size + 1, 1, none⟩ = some (.string (strOfNums (cut xs k m))) := M6.wb.cell 1 _ rfl
            have z2 : X6.cell? ⟨w2.heap.size + 1, 2, none⟩ = some (.int .u64 0) := M6.wb.cell 2 _ rfl
            have z3 : X6.cell? ⟨w2.heap.size + 1, 3, none⟩ = some (.slice none 0 0) := M6.wb.cell 3 _ rfl
            have z4 : X6.cell? ⟨w2.heap.size + 1, 4, none⟩ = some (.int .i64 (lnA xs k)) := M6.wb.cell 4 _ rfl
            have z5 : X6.cell? ⟨w2.heap.size + 1, 5, none⟩ = some (.int .i64 (clA xs k)) := M6.wb.cell 5 _ rfl
            have p0 : X7.cell? ⟨w.heap.size + 1, 0, none⟩ = some (.int .i64 k) := HS7.out.cell 0 _ rfl
            have p1 : X7.cell? ⟨w.heap.size + 1, 1, none⟩ = some (.int .i64 (lnA xs k)) := HS7.out.cell 1 _ rfl
            have p2 : X7.cell? ⟨w.heap.size + 1, 2, none⟩ = some (.int .i64 (clA xs k)) := HS7.out.cell 2 _ rfl
            clear hrun hK7 hS7 hF7 hB7
            obtain ⟨yv, y1⟩ := y1
            go_wp2_with (first | (at_builtin; refine wpList_append_ran rfl _ _ 50 50 rfl rfl _ _ (.slice la ln lc) X7 rfl rfl HRUN.out ?_))
            refine (toR xs k _ m HBB.out (by omega) (by omega) hl).mono ?_
            rintro e X8 ⟨rfl, B8⟩
            have S8 := HS7.out.kept B8
            have g0 := S8.frozen 0
            have g1 := S8.frozen 1
            have g2 := S8.frozen 2
            have v0 := S8.cell 0 _ rfl
            have v1 := S8.cell 1 _ rfl
            have v2 := S8.cell 2 _ rfl
            obtain ⟨X9, hX9⟩ : ∃ X9, (((X8.setCell ⟨w.heap.size + 1, 0, none⟩ (.int .i64 m)).setCell ⟨w.heap.size + 1, 1, none⟩ (.int .i64 (lnA xs m))).setCell ⟨w.heap.size + 1, 2, none⟩ (.int .i64 (clA xs m))) = X9 := ⟨_, rfl⟩
            have KE9 : Keep (· ≠ w.heap.size + 1) X8 X9 := by
              rw [← hX9]
              exact ((Keep.setCell _ _ _ (by simp)).trans (Keep.setCell _ _ _ (by simp))).trans (Keep.setCell _ _ _ (by simp))
            have S9 : Blk X9 (w.heap.size + 1) 114 #[.int .i64 m, .int .i64 (lnA xs m), .int .i64 (clA xs m)] := by
              rw [← hX9]
              exact Blk.is (((S8.set 0 _).set 1 _).set 2 _) (by simp)
            have hs7 : w.heap.size + 2 ≤ X7.heap.size := Nat.le_trans (Nat.le_trans hs2 M6.b.size) hz7
            have HR9 : Hid (RI w X9 xs (.slice la ln lc) m (wds ++ [⟨1, k, m, 0, []⟩]) (ws ++ [(⟨1, cut xs k m, 0, [], lnA xs k, clA xs k⟩, .slice none 0 0)])) := hid ⟨S9, (HF7.out.kept B8).keep KE9 (by simp), (HK7.out.kept B8).keep KE9, (by rw [List.map_append, List.map_append, HIS.out]; rfl), (HB7.out.trans (B8.mono (by omega))).trans (KE9.below (by have := B8.size; omega) (fun k hk => by omega)), Nat.le_trans hs7 (Nat.le_trans B8.size KE9.size), by omega, (by have := HCN.out; simp; omega), (by rw [← HLK.out, lxAt_word hkn HTK.out])⟩
            have HP9 := hid (posAt_is (S9.cell 0 _ rfl))
            clear S8 S9 KE9 B8
            go_wp2
            refine ⟨⟨m, _, _, HR9⟩, ?_⟩
            rw [HPJ.out, HP9.out]
            omega
      | false =>
      have HBT := hid (bt_bd HBB.out k)
      go_wp2_with fail
      refine (ldigitR (bt xs k) _).mono ?_
      rintro e X4' ⟨rfl, rfl⟩
      cases hdg : digB (bt xs k) with
      | true =>
        have HTN : Hid (tok xs k = tokN xs k) := hid (by rw [HTW.out, if_neg (by simp [hlt]), if_pos hdg])
        obtain ⟨X5, hX5⟩ : ∃ X5, X4.setCell ⟨w2.heap.size + 1, 0, none⟩ (.int .i64 2) = X5 := ⟨_, rfl⟩
        have M5 : Hid (Mid w2 X5 (lnA xs k) (clA xs k) #[.int .i64 2, .string ⟨#[]⟩, .int .u64 0, .slice none 0 0, .int .i64 (lnA xs k), .int .i64 (clA xs k)]) := hid (by rw [← hX5]; exact M4.out.setW 0 _ (by simp))
        clear hlt hdg HTW
        go_wp2_with fail
        refine (numberR xs k _ HBB.out hkn hl).mono ?_
        rintro e X5' ⟨he, hw⟩
        subst hw
        have hb0 : X5.cell? ⟨w2.heap.size, 0, none⟩ = some (.int .i64 11) := M5.out.fb.cell 0 _ rfl
        have hbf := M5.out.fb.frozen 0
        rcases tokN_cases xs k with ht | ht | ⟨m, nn, ht⟩
        · rw [ht] at he
          dsimp only [numO] at he
          subst he
          have HE : Hid (outE xs = ([], 11, lnA xs k, clA xs k)) := hid (outE_bad hl (by decide) (by rw [← HLK.out]; exact lxAt_bad hkn (by rw [HTN.out, ht])))
          clear ht
          have hsm := set_same (v := .int .i64 11) M5.out.fb 0 rfl
          have ZF : Hid (Blk X5 w.heap.size 28 #[.int .i64 0, .int .i64 0, .int .i64 0, .int .i64 0]) := hid (HF2.out.kept M5.out.b)
          have ZB : Hid (Below w.heap.size w X5) := hid (HB2.out.trans (M5.out.b.mono (by omega)))
          have zq0 : X5.cell? ⟨w.heap.size, 0, none⟩ = some (.int .i64 0) := ZF.out.cell 0 _ rfl
          have zq1 : X5.cell? ⟨w.heap.size, 1, none⟩ = some (.int .i64 0) := ZF.out.cell 1 _ rfl
          have zq2 : X5.cell? ⟨w.heap.size, 2, none⟩ = some (.int .i64 0) := ZF.out.cell 2 _ rfl
          have zq3 : X5.cell? ⟨w.heap.size, 3, none⟩ = some (.int .i64 0) := ZF.out.cell 3 _ rfl
          have zr0 := ZF.out.frozen 0
          have zr1 := ZF.out.frozen 1
          have zr2 := ZF.out.frozen 2
          have zr3 := ZF.out.frozen 3
          have zb0 : X5.cell? ⟨w2.heap.size, 0, none⟩ = some (.int .i64 11) := M5.out.fb.cell 0 _ rfl
          have zb1 : X5.cell? ⟨w2.heap.size, 1, none⟩ = some (.int .i64 0) := M5.out.fb.cell 1 _ rfl
          have zb2 : X5.cell? ⟨w2.heap.size, 2, none⟩ = some (.int .i64 (lnA xs k)) := M5.out.fb.cell 2 _ rfl
          have zb3 : X5.cell? ⟨w2.heap.size, 3, none⟩ = some (.int .i64 (clA xs k)) := M5.out.fb.cell 3 _ rfl
          go_wp2
          go_region
          go_wp2
          exact bodyPost_ret (v := .tuple #[.slice none 0 0, .agg #[.int .i64 11, .int .i64 0, .int .i64 (lnA xs k), .int .i64 (clA xs k)]]) (by simp [results, Tryz.results16, go_sem, zq0, zq1, zq2, zq3]) rfl ⟨none, 0, by rw [HE.out]; rfl, by rw [HE.out]; exact readsW_nil _, ((((ZB.out.setCell (by simp) _).setCell (by simp) _).setCell (by simp) _).setCell (by simp) _).drew⟩
        · rw [ht] at he
          dsimp only [numO] at he
          subst he
          have HE : Hid (outE xs = ([], 7, lnA xs k, clA xs k)) := hid (outE_bad hl (by decide) (by rw [← HLK.out]; exact lxAt_bad hkn (by rw [HTN.out, ht])))
          clear ht
          obtain ⟨X6, hX6⟩ : ∃ X6, X5.setCell ⟨w2.heap.size, 0, none⟩ (.int .i64 7) = X6 := ⟨_, rfl⟩
          have B6 : Below w2.heap.size w2 X6 := by rw [← hX6]; exact M5.out.b.setCell (by simp) _
          have FB6 : Blk X6 w2.heap.size 28 #[.int .i64 7, .int .i64 0, .int .i64 (lnA xs k), .int .i64 (clA xs k)] := by rw [← hX6]; exact Blk.is (M5.out.fb.set 0 _) (by simp)
          have ZF : Hid (Blk X6 w.heap.size 28 #[.int .i64 0, .int .i64 0, .int .i64 0, .int .i64 0]) := hid (HF2.out.kept B6)
          have ZB : Hid (Below w.heap.size w X6) := hid (HB2.out.trans (B6.mono (by omega)))
          have zq0 : X6.cell? ⟨w.heap.size, 0, none⟩ = some (.int .i64 0) := ZF.out.cell 0 _ rfl
          have zq1 : X6.cell? ⟨w.heap.size, 1, none⟩ = some (.int .i64 0) := ZF.out.cell 1 _ rfl
          have zq2 : X6.cell? ⟨w.heap.size, 2, none⟩ = some (.int .i64 0) := ZF.out.cell 2 _ rfl
          have zq3 : X6.cell? ⟨w.heap.size, 3, none⟩ = some (.int .i64 0) := ZF.out.cell 3 _ rfl
          have zr0 := ZF.out.frozen 0
          have zr1 := ZF.out.frozen 1
          have zr2 := ZF.out.frozen 2
          have zr3 := ZF.out.frozen 3
          have zb0 : X6.cell? ⟨w2.heap.size, 0, none⟩ = some (.int .i64 7) := FB6.cell 0 _ rfl
          have zb1 : X6.cell? ⟨w2.heap.size, 1, none⟩ = some (.int .i64 0) := FB6.cell 1 _ rfl
          have zb2 : X6.cell? ⟨w2.heap.size, 2, none⟩ = some (.int .i64 (lnA xs k)) := FB6.cell 2 _ rfl
          have zb3 : X6.cell? ⟨w2.heap.size, 3, none⟩ = some (.int .i64 (clA xs k)) := FB6.cell 3 _ rfl
          go_wp2
          go_region
          go_wp2
          exact bodyPost_ret (v := .tuple #[.slice none 0 0, .agg #[.int .i64 7, .int .i64 0, .int .i64 (lnA xs k), .int .i64 (clA xs k)]]) (by simp [results, Tryz.results16, go_sem, zq0, zq1, zq2, zq3]) rfl ⟨none, 0, by rw [HE.out]; rfl, by rw [HE.out]; exact readsW_nil _, ((((ZB.out.setCell (by simp) _).setCell (by simp) _).setCell (by simp) _).setCell (by simp) _).drew⟩
        · rw [ht] at he
          dsimp only [numO] at he
          subst he
          have HTK : Hid (tok xs k = .word 2 m nn []) := hid (by rw [HTN.out, ht])
          have hm := tok_word hkn HTK.out
          obtain ⟨hm1, hm2⟩ := hm
          clear ht
          obtain ⟨X5b, hX5b⟩ : ∃ X5b, X5.setCell ⟨w2.heap.size + 1, 2, none⟩ (.int .u64 nn) = X5b := ⟨_, rfl⟩
          have M5b : Hid (Mid w2 X5b (lnA xs k) (clA xs k) #[.int .i64 2, .string ⟨#[]⟩, .int .u64 nn, .slice none 0 0, .int .i64 (lnA xs k), .int .i64 (clA xs k)]) := hid (by rw [← hX5b]; exact M5.out.setW 2 _ (by simp))
          have n0 : X5.cell? ⟨w2.heap.size + 1, 2, none⟩ = some (.int .u64 0) := M5.out.wb.cell 2 _ rfl
          have nf := M5.out.wb.frozen 2
          obtain ⟨X6c, hX6c⟩ : ∃ X6c, X5b.setCell ⟨w2.heap.size + 1, 1, none⟩ (.string (strOfNums (cut xs k m))) = X6c := ⟨_, rfl⟩
          have M6c : Mid w2 X6c (lnA xs k) (clA xs k) #[.int .i64 2, .string (strOfNums (cut xs k m)), .int .u64 nn, .slice none 0 0, .int .i64 (lnA xs k), .int .i64 (clA xs k)] := by
            rw [← hX6c]
            exact M5b.out.setW 1 _ (by simp)
          have hcut := HEX.out k m
          have hmk : (k : Int) ≤ (m : Int) := by omega
          have hmn : (m : Int) ≤ (xs.length : Int) := by omega
          obtain ⟨la, ln, lc, X7, hrun, hK7, hS7, hF7, hB7, hz7⟩ := refAppend (w := w) ⟨2, cut xs k m, nn, [], lnA xs k, clA xs k⟩ none 0 (HK2.out.kept M6c.b) (HS2.out.kept M6c.b) (HF2.out.kept M6c.b) (Nat.le_trans hs2 M6c.b.size) (by have := HCN.out; omega) (reads_nil _) (fun y hy => by cases hy) (HB2.out.trans (M6c.b.mono (by omega)))
          dsimp only at hrun
          have HRUN := hid hrun
          have HK7 := hid hK7
          have HS7 := hid hS7
          have HF7 := hid hF7
          have HB7 := hid hB7
          have f1 : X5b.frozen? ⟨w2.heap.size + 1, 1, none⟩ = false := M5b.out.wb.frozen 1
          have y1 : ∃ v, X5b.cell? ⟨w2.heap.size + 1, 1, none⟩ = some v := ⟨_, M5b.out.wb.cell 1 _ rfl⟩
          have z0 : X6c.cell? ⟨w2.heap.size + 1, 0, none⟩ = some (.int .i64 2) := M6c.wb.cell 0 _ rfl
          have z1 : X6c.cell? ⟨w2.heap.size + 1, 1, none⟩ = some (.string (strOfNums (cut xs k m))) := M6c.wb.cell 1 _ rfl
          have z2 : X6c.cell? ⟨w2.heap.size + 1, 2, none⟩ = some (.int .u64 nn) := M6c.wb.cell 2 _ rfl
          have z3 : X6c.cell? ⟨w2.heap.size + 1, 3, none⟩ = some (.slice none 0 0) := M6c.wb.cell 3 _ rfl
          have z4 : X6c.cell? ⟨w2.heap.size + 1, 4, none⟩ = some (.int .i64 (lnA xs k)) := M6c.wb.cell 4 _ rfl
          have z5 : X6c.cell? ⟨w2.heap.size + 1, 5, none⟩ = some (.int .i64 (clA xs k)) := M6c.wb.cell 5 _ rfl
          have p0 : X7.cell? ⟨w.heap.size + 1, 0, none⟩ = some (.int .i64 k) := HS7.out.cell 0 _ rfl
          have p1 : X7.cell? ⟨w.heap.size + 1, 1, none⟩ = some (.int .i64 (lnA xs k)) := HS7.out.cell 1 _ rfl
          have p2 : X7.cell? ⟨w.heap.size + 1, 2, none⟩ = some (.int .i64 (clA xs k)) := HS7.out.cell 2 _ rfl
          clear hrun hK7 hS7 hF7 hB7
          obtain ⟨yv, y1⟩ := y1
          go_wp2_with (first | (at_builtin; refine wpList_append_ran rfl _ _ 50 50 rfl rfl _ _ (.slice la ln lc) X7 rfl rfl HRUN.out ?_))
          refine (toR xs k _ m HBB.out (by omega) (by omega) hl).mono ?_
          rintro e X8 ⟨rfl, B8⟩
          have S8 := HS7.out.kept B8
          have g0 := S8.frozen 0
          have g1 := S8.frozen 1
          have g2 := S8.frozen 2
          have v0 := S8.cell 0 _ rfl
          have v1 := S8.cell 1 _ rfl
          have v2 := S8.cell 2 _ rfl
          obtain ⟨X9, hX9⟩ : ∃ X9, (((X8.setCell ⟨w.heap.size + 1, 0, none⟩ (.int .i64 m)).setCell ⟨w.heap.size + 1, 1, none⟩ (.int .i64 (lnA xs m))).setCell ⟨w.heap.size + 1, 2, none⟩ (.int .i64 (clA xs m))) = X9 := ⟨_, rfl⟩
          have KE9 : Keep (· ≠ w.heap.size + 1) X8 X9 := by
            rw [← hX9]
            exact ((Keep.setCell _ _ _ (by simp)).trans (Keep.setCell _ _ _ (by simp))).trans (Keep.setCell _ _ _ (by simp))
          have S9 : Blk X9 (w.heap.size + 1) 114 #[.int .i64 m, .int .i64 (lnA xs m), .int .i64 (clA xs m)] := by
            rw [← hX9]
            exact Blk.is (((S8.set 0 _).set 1 _).set 2 _) (by simp)
          have hs7 : w.heap.size + 2 ≤ X7.heap.size := Nat.le_trans (Nat.le_trans hs2 M6c.b.size) hz7
          have HR9 : Hid (RI w X9 xs (.slice la ln lc) m (wds ++ [⟨2, k, m, nn, []⟩]) (ws ++ [(⟨2, cut xs k m, nn, [], lnA xs k, clA xs k⟩, .slice none 0 0)])) := hid ⟨S9, (HF7.out.kept B8).keep KE9 (by simp), (HK7.out.kept B8).keep KE9, (by rw [List.map_append, List.map_append, HIS.out]; rfl), (HB7.out.trans (B8.mono (by omega))).trans (KE9.below (by have := B8.size; omega) (fun k hk => by omega)), Nat.le_trans hs7 (Nat.le_trans B8.size KE9.size), by omega, (by have := HCN.out; simp; omega), (by rw [← HLK.out, lxAt_word hkn HTK.out])⟩
          have HP9 := hid (posAt_is (S9.cell 0 _ rfl))
          clear S8 S9 KE9 B8
          go_wp2
          refine ⟨⟨m, _, _, HR9⟩, ?_⟩
          rw [HPJ.out, HP9.out]
          omega
      | false =>
      by_cases h34 : bt xs k = 34
      · have HTQ : Hid (tok xs k = tokQ xs k) := hid (by rw [HTW.out, if_neg (by simp [hlt]), if_neg (by simp [hdg]), if_pos h34])
        have e34 : (bt xs k == 34) = true := by simpa using h34
        obtain ⟨X5, hX5⟩ : ∃ X5, X4.setCell ⟨w2.heap.size + 1, 0, none⟩ (.int .i64 3) = X5 := ⟨_, rfl⟩
        have M5 : Hid (Mid w2 X5 (lnA xs k) (clA xs k) #[.int .i64 3, .string ⟨#[]⟩, .int .u64 0, .slice none 0 0, .int .i64 (lnA xs k), .int .i64 (clA xs k)]) := hid (by rw [← hX5]; exact M4.out.setW 0 _ (by simp))
        clear hlt hdg HTW h34
        go_wp2_with fail
        refine (quotedR xs k _ HBB.out hkn hl).mono ?_
        rintro e X5' ⟨he, hw⟩
        subst hw
        cases hq : qe xs (k + 1) with
        | none =>
          rw [hq] at he
          dsimp only [endQ] at he
          subst he
          have HE : Hid (outE xs = ([], 11, lnA xs k, clA xs k)) := hid (outE_bad hl (by decide) (by rw [← HLK.out]; exact lxAt_bad hkn (by rw [HTQ.out]; unfold tokQ; rw [hq])))
          clear hq
          have ZF : Hid (Blk X5 w.heap.size 28 #[.int .i64 0, .int .i64 0, .int .i64 0, .int .i64 0]) := hid (HF2.out.kept M5.out.b)
          have ZB : Hid (Below w.heap.size w X5) := hid (HB2.out.trans (M5.out.b.mono (by omega)))
          have zq0 : X5.cell? ⟨w.heap.size, 0, none⟩ = some (.int .i64 0) := ZF.out.cell 0 _ rfl
          have zq1 : X5.cell? ⟨w.heap.size, 1, none⟩ = some (.int .i64 0) := ZF.out.cell 1 _ rfl
          have zq2 : X5.cell? ⟨w.heap.size, 2, none⟩ = some (.int .i64 0) := ZF.out.cell 2 _ rfl
          have zq3 : X5.cell? ⟨w.heap.size, 3, none⟩ = some (.int .i64 0) := ZF.out.cell 3 _ rfl
          have zr0 := ZF.out.frozen 0
          have zr1 := ZF.out.frozen 1
          have zr2 := ZF.out.frozen 2
          have zr3 := ZF.out.frozen 3
          have zb0 : X5.cell? ⟨w2.heap.size, 0, none⟩ = some (.int .i64 11) := M5.out.fb.cell 0 _ rfl
          have zb1 : X5.cell? ⟨w2.heap.size, 1, none⟩ = some (.int .i64 0) := M5.out.fb.cell 1 _ rfl
          have zb2 : X5.cell? ⟨w2.heap.size, 2, none⟩ = some (.int .i64 (lnA xs k)) := M5.out.fb.cell 2 _ rfl
          have zb3 : X5.cell? ⟨w2.heap.size, 3, none⟩ = some (.int .i64 (clA xs k)) := M5.out.fb.cell 3 _ rfl
          go_wp2
          go_region
          go_wp2
          exact bodyPost_ret (v := .tuple #[.slice none 0 0, .agg #[.int .i64 11, .int .i64 0, .int .i64 (lnA xs k), .int .i64 (clA xs k)]]) (by simp [results, Tryz.results16, go_sem, zq0, zq1, zq2, zq3]) rfl ⟨none, 0, by rw [HE.out]; rfl, by rw [HE.out]; exact readsW_nil _, ((((ZB.out.setCell (by simp) _).setCell (by simp) _).setCell (by simp) _).setCell (by simp) _).drew⟩
        | some m =>
          rw [hq] at he
          dsimp only [endQ] at he
          subst he
          have hm := qe_le hq
          obtain ⟨hm1, hm2⟩ := hm
          have hcutm := HEX.out k m
          have hmk0 : (k : Int) ≤ (m : Int) := by omega
          have hmn0 : (m : Int) ≤ (xs.length : Int) := by omega
          go_wp2_with fail
          have hU := refUnqR (cut xs k m) X5 (cut_bd HBB.out k m) (by rw [cut_length _ _ _ hm2]; omega)
          cases hu : uq (cut xs k m) with
          | none =>
            rw [hu] at hU
            have HE : Hid (outE xs = ([], 11, lnA xs k, clA xs k)) := hid (outE_bad hl (by decide) (by rw [← HLK.out]; exact lxAt_bad hkn (by rw [HTQ.out]; unfold tokQ; rw [hq]; dsimp only; rw [hu])))
            clear hq hu
            refine hU.mono ?_
            rintro e X6 ⟨rfl, B6⟩
            have M6 := M5.out.kept B6
            clear hU B6
            have ZF : Hid (Blk X6 w.heap.size 28 #[.int .i64 0, .int .i64 0, .int .i64 0, .int .i64 0]) := hid (HF2.out.kept M6.b)
            have ZB : Hid (Below w.heap.size w X6) := hid (HB2.out.trans (M6.b.mono (by omega)))
            have zq0 : X6.cell? ⟨w.heap.size, 0, none⟩ = some (.int .i64 0) := ZF.out.cell 0 _ rfl
            have zq1 : X6.cell? ⟨w.heap.size, 1, none⟩ = some (.int .i64 0) := ZF.out.cell 1 _ rfl
            have zq2 : X6.cell? ⟨w.heap.size, 2, none⟩ = some (.int .i64 0) := ZF.out.cell 2 _ rfl
            have zq3 : X6.cell? ⟨w.heap.size, 3, none⟩ = some (.int .i64 0) := ZF.out.cell 3 _ rfl
            have zr0 := ZF.out.frozen 0
            have zr1 := ZF.out.frozen 1
            have zr2 := ZF.out.frozen 2
            have zr3 := ZF.out.frozen 3
            have zb0 : X6.cell? ⟨w2.heap.size, 0, none⟩ = some (.int .i64 11) := M6.fb.cell 0 _ rfl
            have zb1 : X6.cell? ⟨w2.heap.size, 1, none⟩ = some (.int .i64 0) := M6.fb.cell 1 _ rfl
            have zb2 : X6.cell? ⟨w2.heap.size, 2, none⟩ = some (.int .i64 (lnA xs k)) := M6.fb.cell 2 _ rfl
            have zb3 : X6.cell? ⟨w2.heap.size, 3, none⟩ = some (.int .i64 (clA xs k)) := M6.fb.cell 3 _ rfl
            go_wp2
            go_region
            go_wp2
            exact bodyPost_ret (v := .tuple #[.slice none 0 0, .agg #[.int .i64 11, .int .i64 0, .int .i64 (lnA xs k), .int .i64 (clA xs k)]]) (by simp [results, Tryz.results16, go_sem, zq0, zq1, zq2, zq3]) rfl ⟨none, 0, by rw [HE.out]; rfl, by rw [HE.out]; exact readsW_nil _, ((((ZB.out.setCell (by simp) _).setCell (by simp) _).setCell (by simp) _).setCell (by simp) _).drew⟩
          | some b =>
            rw [hu] at hU
            have HTK : Hid (tok xs k = .word 3 m 0 b) := hid (by rw [HTQ.out]; unfold tokQ; rw [hq]; dsimp only; rw [hu])
            clear hq hu
            refine hU.mono ?_
            rintro e X6 ⟨ba, bcap, rfl, hrd, B6, hnew⟩
            have M6 := hid (M5.out.kept B6)
            have hsz5 : w2.heap.size + 1 < X5.heap.size := M5.out.wb.lt
            have HRD := hid hrd
            have HNW := hid hnew
            clear hU B6 hrd hnew
            obtain ⟨X5b, hX5b⟩ : ∃ X5b, X6.setCell ⟨w2.heap.size + 1, 3, none⟩ (.slice ba b.length bcap) = X5b := ⟨_, rfl⟩
            have M5b : Hid (Mid w2 X5b (lnA xs k) (clA xs k) #[.int .i64 3, .string ⟨#[]⟩, .int .u64 0, .slice ba b.length bcap, .int .i64 (lnA xs k), .int .i64 (clA xs k)]) := hid (by rw [← hX5b]; exact M6.out.setW 3 _ (by simp))
            have n0 : X6.cell? ⟨w2.heap.size + 1, 3, none⟩ = some (.slice none 0 0) := M6.out.wb.cell 3 _ rfl
            have nf := M6.out.wb.frozen 3
            have HRB : Hid (∀ v, Reads (X5b.setCell ⟨w2.heap.size + 1, 1, none⟩ v) ba b.length bcap b) := hid (fun v => by
              rw [← hX5b]
              exact reads_keep (f := (· ≠ w2.heap.size + 1)) HRD.out (fun y hy => .inr (by have := HNW.out y hy; omega)) ((Keep.setCell _ _ _ (by simp)).trans (Keep.setCell _ _ _ (by simp))))
            have HOF : Hid (Off (w.heap.size + 1) u4 b.length ba) := hid (fun y hy => .inr ⟨by have := HNW.out y hy; omega, fun e => by have h1 := HNW.out y hy; have h2 := (HK2.out.row.lt _ e).2; omega⟩)
            obtain ⟨X6c, hX6c⟩ : ∃ X6c, X5b.setCell ⟨w2.heap.size + 1, 1, none⟩ (.string (strOfNums (cut xs k m))) = X6c := ⟨_, rfl⟩
            have M6c : Mid w2 X6c (lnA xs k) (clA xs k) #[.int .i64 3, .string (strOfNums (cut xs k m)), .int .u64 0, .slice ba b.length bcap, .int .i64 (lnA xs k), .int .i64 (clA xs k)] := by
              rw [← hX6c]
              exact M5b.out.setW 1 _ (by simp)
            have hcut := HEX.out k m
            have hmk : (k : Int) ≤ (m : Int) := by omega
            have hmn : (m : Int) ≤ (xs.length : Int) := by omega
            obtain ⟨la, ln, lc, X7, hrun, hK7, hS7, hF7, hB7, hz7⟩ := refAppend (w := w) ⟨3, cut xs k m, 0, b, lnA xs k, clA xs k⟩ ba bcap (HK2.out.kept M6c.b) (HS2.out.kept M6c.b) (HF2.out.kept M6c.b) (Nat.le_trans hs2 M6c.b.size) (by have := HCN.out; omega) (by rw [← hX6c]; exact HRB.out _) HOF.out (HB2.out.trans (M6c.b.mono (by omega)))
            dsimp only at hrun
            have HRUN := hid hrun
            have HK7 := hid hK7
            have HS7 := hid hS7
            have HF7 := hid hF7
            have HB7 := hid hB7
            have f1 : X5b.frozen? ⟨w2.heap.size + 1, 1, none⟩ = false := M5b.out.wb.frozen 1
            have y1 : ∃ v, X5b.cell? ⟨w2.heap.size + 1, 1, none⟩ = some v := ⟨_, M5b.out.wb.cell 1 _ rfl⟩
            have z0 : X6c.cell? ⟨w2.heap.size + 1, 0, none⟩ = some (.int .i64 3) := M6c.wb.cell 0 _ rfl
            have z1 : X6c.cell? ⟨w2.heap.size + 1, 1, none⟩ = some (.string (strOfNums (cut xs k m))) := M6c.wb.cell 1 _ rfl
            have z2 : X6c.cell? ⟨w2.heap.size + 1, 2, none⟩ = some (.int .u64 0) := M6c.wb.cell 2 _ rfl
            have z3 : X6c.cell? ⟨w2.heap.size + 1, 3, none⟩ = some (.slice ba b.length bcap) := M6c.wb.cell 3 _ rfl
            have z4 : X6c.cell? ⟨w2.heap.size + 1, 4, none⟩ = some (.int .i64 (lnA xs k)) := M6c.wb.cell 4 _ rfl
            have z5 : X6c.cell? ⟨w2.heap.size + 1, 5, none⟩ = some (.int .i64 (clA xs k)) := M6c.wb.cell 5 _ rfl
            have p0 : X7.cell? ⟨w.heap.size + 1, 0, none⟩ = some (.int .i64 k) := HS7.out.cell 0 _ rfl
            have p1 : X7.cell? ⟨w.heap.size + 1, 1, none⟩ = some (.int .i64 (lnA xs k)) := HS7.out.cell 1 _ rfl
            have p2 : X7.cell? ⟨w.heap.size + 1, 2, none⟩ = some (.int .i64 (clA xs k)) := HS7.out.cell 2 _ rfl
            clear hrun hK7 hS7 hF7 hB7
            obtain ⟨yv, y1⟩ := y1
            go_wp2_with (first | (at_builtin; refine wpList_append_ran rfl _ _ 50 50 rfl rfl _ _ (.slice la ln lc) X7 rfl rfl HRUN.out ?_))
            refine (toR xs k _ m HBB.out (by omega) (by omega) hl).mono ?_
            rintro e X8 ⟨rfl, B8⟩
            have S8 := HS7.out.kept B8
            have g0 := S8.frozen 0
            have g1 := S8.frozen 1
            have g2 := S8.frozen 2
            have v0 := S8.cell 0 _ rfl
            have v1 := S8.cell 1 _ rfl
            have v2 := S8.cell 2 _ rfl
            obtain ⟨X9, hX9⟩ : ∃ X9, (((X8.setCell ⟨w.heap.size + 1, 0, none⟩ (.int .i64 m)).setCell ⟨w.heap.size + 1, 1, none⟩ (.int .i64 (lnA xs m))).setCell ⟨w.heap.size + 1, 2, none⟩ (.int .i64 (clA xs m))) = X9 := ⟨_, rfl⟩
            have KE9 : Keep (· ≠ w.heap.size + 1) X8 X9 := by
              rw [← hX9]
              exact ((Keep.setCell _ _ _ (by simp)).trans (Keep.setCell _ _ _ (by simp))).trans (Keep.setCell _ _ _ (by simp))
            have S9 : Blk X9 (w.heap.size + 1) 114 #[.int .i64 m, .int .i64 (lnA xs m), .int .i64 (clA xs m)] := by
              rw [← hX9]
              exact Blk.is (((S8.set 0 _).set 1 _).set 2 _) (by simp)
            have hs7 : w.heap.size + 2 ≤ X7.heap.size := Nat.le_trans (Nat.le_trans hs2 M6c.b.size) hz7
            have HR9 : Hid (RI w X9 xs (.slice la ln lc) m (wds ++ [⟨3, k, m, 0, b⟩]) (ws ++ [(⟨3, cut xs k m, 0, b, lnA xs k, clA xs k⟩, .slice ba b.length bcap)])) := hid ⟨S9, (HF7.out.kept B8).keep KE9 (by simp), (HK7.out.kept B8).keep KE9, (by rw [List.map_append, List.map_append, HIS.out]; rfl), (HB7.out.trans (B8.mono (by omega))).trans (KE9.below (by have := B8.size; omega) (fun k hk => by omega)), Nat.le_trans hs7 (Nat.le_trans B8.size KE9.size), by omega, (by have := HCN.out; simp; omega), (by rw [← HLK.out, lxAt_word hkn HTK.out])⟩
            have HP9 := hid (posAt_is (S9.cell 0 _ rfl))
            clear S8 S9 KE9 B8
            go_wp2
            refine ⟨⟨m, _, _, HR9⟩, ?_⟩
            rw [HPJ.out, HP9.out]
            omega
      have e34 : (bt xs k == 34) = false := by simpa using h34
      go_wp2_with fail
      refine (signR (bt xs k) _).mono ?_
      rintro e X4' ⟨rfl, rfl⟩
      cases hsg : sgnB (bt xs k) with
      | true =>
        have HTK : Hid (tok xs k = .word 4 (k + 1) 0 []) := hid (by rw [HTW.out, if_neg (by simp [hlt]), if_neg (by simp [hdg]), if_neg h34, if_pos hsg])
        obtain ⟨X5, hX5⟩ : ∃ X5, X4.setCell ⟨w2.heap.size + 1, 0, none⟩ (.int .i64 4) = X5 := ⟨_, rfl⟩
        have M5 : Hid (Mid w2 X5 (lnA xs k) (clA xs k) #[.int .i64 4, .string ⟨#[]⟩, .int .u64 0, .slice none 0 0, .int .i64 (lnA xs k), .int .i64 (clA xs k)]) := hid (by rw [← hX5]; exact M4.out.setW 0 _ (by simp))
        obtain ⟨m, hmE⟩ : ∃ m, k + 1 = m := ⟨_, rfl⟩
        rw [hmE] at HTK
        have hmI : (k : Int) + 1 = (m : Int) := by omega
        have hm1 : k < m := by omega
        have hm2 : m ≤ xs.length := by omega
        clear hlt hdg HTW h34 hsg hmE
        obtain ⟨X6, hX6⟩ : ∃ X6, X5.setCell ⟨w2.heap.size + 1, 1, none⟩ (.string (strOfNums (cut xs k m))) = X6 := ⟨_, rfl⟩
        have M6 : Mid w2 X6 (lnA xs k) (clA xs k) #[.int .i64 4, .string (strOfNums (cut xs k m)), .int .u64 0, .slice none 0 0, .int .i64 (lnA xs k), .int .i64 (clA xs k)] := by
          rw [← hX6]
          exact M5.out.setW 1 _ (by simp)
        have hcut := HEX.out k m
        have hmk : (k : Int) ≤ (m : Int) := by omega
        have hmn : (m : Int) ≤ (xs.length : Int) := by omega
        obtain ⟨la, ln, lc, X7, hrun, hK7, hS7, hF7, hB7, hz7⟩ := refAppend (w := w) ⟨4, cut xs k m, 0, [], lnA xs k, clA xs k⟩ none 0 (HK2.out.kept M6.b) (HS2.out.kept M6.b) (HF2.out.kept M6.b) (Nat.le_trans hs2 M6.b.size) (by have := HCN.out; omega) (reads_nil _) (fun y hy => by cases hy) (HB2.out.trans (M6.b.mono (by omega)))
        dsimp only at hrun
        have HRUN := hid hrun
        have HK7 := hid hK7
        have HS7 := hid hS7
        have HF7 := hid hF7
        have HB7 := hid hB7
        have f1 : X5.frozen? ⟨w2.heap.size + 1, 1, none⟩ = false := M5.out.wb.frozen 1
        have y1 : ∃ v, X5.cell? ⟨w2.heap.size + 1, 1, none⟩ = some v := ⟨_, M5.out.wb.cell 1 _ rfl⟩
        have z0 : X6.cell? ⟨w2.heap.size + 1, 0, none⟩ = some (.int .i64 4) := M6.wb.cell 0 _ rfl
        have z1 : X6.cell? ⟨w2.heap.size + 1, 1, none⟩ = some (.string (strOfNums (cut xs k m))) := M6.wb.cell 1 _ rfl
        have z2 : X6.cell? ⟨w2.heap.size + 1, 2, none⟩ = some (.int .u64 0) := M6.wb.cell 2 _ rfl
        have z3 : X6.cell? ⟨w2.heap.size + 1, 3, none⟩ = some (.slice none 0 0) := M6.wb.cell 3 _ rfl
        have z4 : X6.cell? ⟨w2.heap.size + 1, 4, none⟩ = some (.int .i64 (lnA xs k)) := M6.wb.cell 4 _ rfl
        have z5 : X6.cell? ⟨w2.heap.size + 1, 5, none⟩ = some (.int .i64 (clA xs k)) := M6.wb.cell 5 _ rfl
        have p0 : X7.cell? ⟨w.heap.size + 1, 0, none⟩ = some (.int .i64 k) := HS7.out.cell 0 _ rfl
        have p1 : X7.cell? ⟨w.heap.size + 1, 1, none⟩ = some (.int .i64 (lnA xs k)) := HS7.out.cell 1 _ rfl
        have p2 : X7.cell? ⟨w.heap.size + 1, 2, none⟩ = some (.int .i64 (clA xs k)) := HS7.out.cell 2 _ rfl
        clear hrun hK7 hS7 hF7 hB7
        obtain ⟨yv, y1⟩ := y1
        go_wp2_with (first | (at_builtin; refine wpList_append_ran rfl _ _ 50 50 rfl rfl _ _ (.slice la ln lc) X7 rfl rfl HRUN.out ?_))
        refine (toR xs k _ m HBB.out (by omega) (by omega) hl).mono ?_
        rintro e X8 ⟨rfl, B8⟩
        have S8 := HS7.out.kept B8
        have g0 := S8.frozen 0
        have g1 := S8.frozen 1
        have g2 := S8.frozen 2
        have v0 := S8.cell 0 _ rfl
        have v1 := S8.cell 1 _ rfl
        have v2 := S8.cell 2 _ rfl
        obtain ⟨X9, hX9⟩ : ∃ X9, (((X8.setCell ⟨w.heap.size + 1, 0, none⟩ (.int .i64 m)).setCell ⟨w.heap.size + 1, 1, none⟩ (.int .i64 (lnA xs m))).setCell ⟨w.heap.size + 1, 2, none⟩ (.int .i64 (clA xs m))) = X9 := ⟨_, rfl⟩
        have KE9 : Keep (· ≠ w.heap.size + 1) X8 X9 := by
          rw [← hX9]
          exact ((Keep.setCell _ _ _ (by simp)).trans (Keep.setCell _ _ _ (by simp))).trans (Keep.setCell _ _ _ (by simp))
        have S9 : Blk X9 (w.heap.size + 1) 114 #[.int .i64 m, .int .i64 (lnA xs m), .int .i64 (clA xs m)] := by
          rw [← hX9]
          exact Blk.is (((S8.set 0 _).set 1 _).set 2 _) (by simp)
        have hs7 : w.heap.size + 2 ≤ X7.heap.size := Nat.le_trans (Nat.le_trans hs2 M6.b.size) hz7
        have HR9 : Hid (RI w X9 xs (.slice la ln lc) m (wds ++ [⟨4, k, m, 0, []⟩]) (ws ++ [(⟨4, cut xs k m, 0, [], lnA xs k, clA xs k⟩, .slice none 0 0)])) := hid ⟨S9, (HF7.out.kept B8).keep KE9 (by simp), (HK7.out.kept B8).keep KE9, (by rw [List.map_append, List.map_append, HIS.out]; rfl), (HB7.out.trans (B8.mono (by omega))).trans (KE9.below (by have := B8.size; omega) (fun k hk => by omega)), Nat.le_trans hs7 (Nat.le_trans B8.size KE9.size), by omega, (by have := HCN.out; simp; omega), (by rw [← HLK.out, lxAt_word hkn HTK.out])⟩
        have HP9 := hid (posAt_is (S9.cell 0 _ rfl))
        clear S8 S9 KE9 B8
        go_wp2
        refine ⟨⟨m, _, _, HR9⟩, ?_⟩
        rw [HPJ.out, HP9.out]
        omega
      | false =>
      have HE : Hid (outE xs = ([], 11, lnA xs k, clA xs k)) := hid (outE_bad hl (by decide) (by rw [← HLK.out]; exact lxAt_bad hkn (by rw [HTW.out, if_neg (by simp [hlt]), if_neg (by simp [hdg]), if_neg h34, if_neg (by simp [hsg])])))
      clear hlt hdg HTW h34 hsg
      have ZF : Hid (Blk X4 w.heap.size 28 #[.int .i64 0, .int .i64 0, .int .i64 0, .int .i64 0]) := hid (HF2.out.kept M4.out.b)
      have ZB : Hid (Below w.heap.size w X4) := hid (HB2.out.trans (M4.out.b.mono (by omega)))
      have zq0 : X4.cell? ⟨w.heap.size, 0, none⟩ = some (.int .i64 0) := ZF.out.cell 0 _ rfl
      have zq1 : X4.cell? ⟨w.heap.size, 1, none⟩ = some (.int .i64 0) := ZF.out.cell 1 _ rfl
      have zq2 : X4.cell? ⟨w.heap.size, 2, none⟩ = some (.int .i64 0) := ZF.out.cell 2 _ rfl
      have zq3 : X4.cell? ⟨w.heap.size, 3, none⟩ = some (.int .i64 0) := ZF.out.cell 3 _ rfl
      have zr0 := ZF.out.frozen 0
      have zr1 := ZF.out.frozen 1
      have zr2 := ZF.out.frozen 2
      have zr3 := ZF.out.frozen 3
      have zb0 : X4.cell? ⟨w2.heap.size, 0, none⟩ = some (.int .i64 11) := M4.out.fb.cell 0 _ rfl
      have zb1 : X4.cell? ⟨w2.heap.size, 1, none⟩ = some (.int .i64 0) := M4.out.fb.cell 1 _ rfl
      have zb2 : X4.cell? ⟨w2.heap.size, 2, none⟩ = some (.int .i64 (lnA xs k)) := M4.out.fb.cell 2 _ rfl
      have zb3 : X4.cell? ⟨w2.heap.size, 3, none⟩ = some (.int .i64 (clA xs k)) := M4.out.fb.cell 3 _ rfl
      go_wp2
      go_region
      go_wp2
      exact bodyPost_ret (v := .tuple #[.slice none 0 0, .agg #[.int .i64 11, .int .i64 0, .int .i64 (lnA xs k), .int .i64 (clA xs k)]]) (by simp [results, Tryz.results16, go_sem, zq0, zq1, zq2, zq3]) rfl ⟨none, 0, by rw [HE.out]; rfl, by rw [HE.out]; exact readsW_nil _, ((((ZB.out.setCell (by simp) _).setCell (by simp) _).setCell (by simp) _).setCell (by simp) _).drew⟩
    · have HE : Hid (outE xs = ([], 11, lnA xs k, clA xs k)) := hid (outE_bad hl (by decide) (by rw [← HLX.out]; exact hlx wds))
      clear hlx
      obtain ⟨X3, hX3⟩ : ∃ X3, w2.alloc (.cells #[.int .i64 11, .int .i64 0, .int .i64 (lnA xs k), .int .i64 (clA xs k)] 28) = X3 := ⟨_, rfl⟩
      have M3 : Below w2.heap.size w2 X3 := by rw [← hX3]; exact below_alloc _
      have FB3 : Blk X3 w2.heap.size 28 #[.int .i64 11, .int .i64 0, .int .i64 (lnA xs k), .int .i64 (clA xs k)] := by rw [← hX3]; exact Blk.new _ _ _
      have ZF : Hid (Blk X3 w.heap.size 28 #[.int .i64 0, .int .i64 0, .int .i64 0, .int .i64 0]) := hid (HF2.out.kept M3)
      have ZB : Hid (Below w.heap.size w X3) := hid (HB2.out.trans (M3.mono (by omega)))
      have zq0 : X3.cell? ⟨w.heap.size, 0, none⟩ = some (.int .i64 0) := ZF.out.cell 0 _ rfl
      have zq1 : X3.cell? ⟨w.heap.size, 1, none⟩ = some (.int .i64 0) := ZF.out.cell 1 _ rfl
      have zq2 : X3.cell? ⟨w.heap.size, 2, none⟩ = some (.int .i64 0) := ZF.out.cell 2 _ rfl
      have zq3 : X3.cell? ⟨w.heap.size, 3, none⟩ = some (.int .i64 0) := ZF.out.cell 3 _ rfl
      have zr0 := ZF.out.frozen 0
      have zr1 := ZF.out.frozen 1
      have zr2 := ZF.out.frozen 2
      have zr3 := ZF.out.frozen 3
      have zb0 : X3.cell? ⟨w2.heap.size, 0, none⟩ = some (.int .i64 11) := FB3.cell 0 _ rfl
      have zb1 : X3.cell? ⟨w2.heap.size, 1, none⟩ = some (.int .i64 0) := FB3.cell 1 _ rfl
      have zb2 : X3.cell? ⟨w2.heap.size, 2, none⟩ = some (.int .i64 (lnA xs k)) := FB3.cell 2 _ rfl
      have zb3 : X3.cell? ⟨w2.heap.size, 3, none⟩ = some (.int .i64 (clA xs k)) := FB3.cell 3 _ rfl
      go_wp2
      go_region
      go_wp2
      exact bodyPost_ret (v := .tuple #[.slice none 0 0, .agg #[.int .i64 11, .int .i64 0, .int .i64 (lnA xs k), .int .i64 (clA xs k)]]) (by simp [results, Tryz.results16, go_sem, zq0, zq1, zq2, zq3]) rfl ⟨none, 0, by rw [HE.out]; rfl, by rw [HE.out]; exact readsW_nil _, ((((ZB.out.setCell (by simp) _).setCell (by simp) _).setCell (by simp) _).setCell (by simp) _).drew⟩
set_option maxHeartbeats 4000000
theorem refR (xs : List Int) (w : World) (hb : ∀ x ∈ xs, 0 ≤ x ∧ x ≤ 255) (hm : xs.length ≤ 9223372036854775807) : Calls Tryz.prog 16 #[.string (strOfNums xs)] w fun e w' => SplitG w (outE xs) e w' := by
  by_cases h : 65536 < xs.length
  · exact refBig xs w h hm
  · exact refIn xs w hb (by omega)
end Go.Proofs.YtidimdbnnnpplaaGreatDoor
