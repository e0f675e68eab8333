/-
  The examples' tables; two lists of changes; the layer is awake.
  The document's list of changes; which ranges lie within others; labels.
  A message's new numbers.
  The document's Fresh.
  Is a type the other one, but for fresh fields?
-/
import Derived.Test.YtmjgonckadcbkaaGreatDoorCEV11
import Derived.Test.YtmjgonckadcbkaaGreatDoorCTY
import Derived.Test.YtmjgonckadcbkaaGreatDoorCEV7
namespace Go.Proofs.YtmjgonckadcbkaaGreatDoor
open Go.RowKit
set_option maxRecDepth 1000000
set_option linter.unusedVariables false
set_option linter.unusedSimpArgs false
set_option maxHeartbeats 1000000
/-- A block of rows, as one's own. -/
theorem own_blk {w : World} {p n size base : Nat} {t : TypeId} {cs : Array Value} (h : Blk w p t cs) (hs : cs.size = n * size) (hb : base ≤ p) (hn : n ≤ 9223372036854775807) : w.ownsRow base t size (.slice (some ⟨p, 0, none⟩) n n) n cs.toList :=
  ⟨by simpa using hs, .inr ⟨p, n, cs, rfl, hb, h, Nat.le_refl _, hn, hs, by rw [← hs]; exact List.take_length⟩⟩
def simB1 : Array Value := #[.string ⟨#[65]⟩, .int .i64 0]
def simB2 : Array Value := #[.string ⟨#[120]⟩, .int .i64 1, .int .i64 2, .int .i64 0, .int .i64 0, .int .i64 0, .int .i64 0, .string ⟨#[108]⟩, .int .i64 2, .int .i64 4, .int .i64 0, .int .i64 3, .int .i64 0, .int .i64 0, .string ⟨#[109]⟩, .int .i64 3, .int .i64 17, .int .i64 1, .int .i64 1, .int .i64 0, .int .i64 0]
def simB3 (h : Nat) : Array Value := #[.string ⟨#[69]⟩, .bool true, .slice none 0 0, .slice none 0 0, .slice (some ⟨h + 1, 0, none⟩) 1 1, .slice none 0 0, .string ⟨#[77]⟩, .bool false, .slice (some ⟨h + 1 + 1, 0, none⟩) 3 3, .slice none 0 0, .slice none 0 0, .slice none 0 0]
/-- The examples' table, by its blocks. -/
theorem simpleB (w : World) : Calls Tryz.prog 25 #[] w fun e w' => e = .returned (.agg #[.slice (some ⟨w.heap.size + 1 + 1 + 1, 0, none⟩) 2 2]) ∧ Blk w' (w.heap.size + 1) 77 simB1 ∧ Blk w' (w.heap.size + 1 + 1) 79 simB2 ∧ Blk w' (w.heap.size + 1 + 1 + 1) 50 (simB3 w.heap.size) ∧ Below w.heap.size w w' := by
  go_enter Tryz.func25, Tryz.ntmps25
  go_wp2
  refine bodyPost_ret (v := .agg #[.slice (some ⟨w.heap.size + 1 + 1 + 1, 0, none⟩) 2 2]) (by simp [results, Tryz.results25, go_sem]) rfl ⟨rfl, ?_, ?_, ?_, by exact blBy⟩
  · exact ((Blk.newAt (by simp)).kept (below_alloc _)).kept (below_alloc _)
  · exact (Blk.newAt (by simp)).kept (below_alloc _)
  · exact Blk.newAt (by simp)
def morF : List FT := simF ++ [⟨[115], 4, 14, 0, 0, 0, 0⟩]
def morL (h : Nat) (fa : Option Addr) (fc : Nat) : List TV := [simE h, ⟨⟨[77], false, morF, [], [], []⟩, .slice fa 4 fc, .slice none 0 0, .slice none 0 0, .slice none 0 0⟩]
theorem morGood (h : Nat) (fa : Option Addr) (fc : Nat) : goodB (morL h fa fc) = true := by kernel_rfl
theorem simMore (h g : Nat) (fa : Option Addr) (fc : Nat) : difL (simL h) (morL g fa fc) = [⟨2, 6, [77], 4⟩] := by kernel_rfl
theorem morOk (h : Nat) (fa : Option Addr) (fc : Nat) : ∀ x ∈ morL h fa fc, OkV x := by
  intro x hx
  rcases List.mem_cons.1 hx with rfl | hx
  · exact simOk h _ (by simp [simL])
  · rcases List.mem_cons.1 hx with rfl | hx
    · have q := simOk h (simM h) (by simp [simL])
      refine ⟨⟨q.ok.nm, fun f hf => ?_, by simp, by simp⟩, by simp, by simp [morF, simF]⟩
      rcases List.mem_append.1 hf with hf | hf
      · exact q.ok.fs f hf
      · simp at hf
        subst hf
        exact ⟨by decide, by decide⟩
    · cases hx
theorem Tryz.infoFT18 : (Tryz.prog.info? 79).map (fun i => (i.zero, i.size, i.bytes)) = some (some (.agg #[.string ⟨#[]⟩, .int .i64 0, .int .i64 0, .int .i64 0, .int .i64 0, .int .i64 0, .int .i64 0]), 7, 64) := by kernel_rfl
/-- What More answers. -/
def MorA (w : World) (e : Ending) (w' : World) : Prop := ∃ h fa fc ta, e = .returned (.agg #[.slice ta 2 2]) ∧ TbR w' (.slice ta 2 2) (morL h fa fc) ∧ Below w.heap.size w w'
theorem step_append18 {P : Program} {ops : Array Oper} {o : Oper} {a : Act} {w : World} {K : Act → World → Prop} {Q : Exit → Act → World → Prop} {E : Prop}
    (hg : o.guard = none) (s x : Operand) (t ty : TypeId) (hop : o.op = Op.call { callee := Callee.builtin Builtin.append, args := #[s, x], argTypes := #[t, t] }) (hty : o.type = ty)
    (v xv v' : Value) (w' : World) (hs : a.eval s = v) (hx : a.eval x = xv) (hr : (Builtin.append_ #[t, t] ty #[v, xv]).run P w = .ok v' w') (hK : K (a.put o.dst v') w') :
    if Region.wanted o (yielded ops a.tmps) = true then Oper.wp P o a w K Q else E := by
  have hw : Region.wanted o (yielded ops a.tmps) = true := by simp [Region.wanted, hg]
  rw [if_pos hw]
  subst hty
  unfold Oper.wp
  simp [execOp, hop, resolve, invoke, builtin, hs, hx, hr, Result.andThen]
  exact hK
/-- A row of one's own stays where another block is written. -/
theorem own_set18 {w : World} {base e size n p i : Nat} {v u : Value} {fl : List Value} {t : TypeId} {cs : Array Value} (h : w.ownsRow base e size v n fl) (hp : Blk w p t cs) (hne : e ≠ t) : (w.setCell ⟨p, i, none⟩ u).ownsRow base e size v n fl :=
  own_keep (f := (· ≠ p)) h (fun k hk e' => by
    obtain ⟨_, _, cur, h3⟩ := own_type h hk
    subst e'
    rw [show w.heap[k]? = _ from hp] at h3
    cases h3
    exact hne rfl) (Keep.setCell w _ u (fun q => q rfl))
/-- A struct more, at the end of a block of rows. -/
theorem appB (t ts : TypeId) (size bytes : Nat) (z : Value) (hts : Tryz.prog.underlying ts = some (.slice t)) (hinfo : (Tryz.prog.info? t).map (fun i => (i.zero, i.size, i.bytes)) = some (some z, size, bytes)) (hzs : z.cells.size = size) (h0 : 0 < size) (hby : bytes ≤ 400) (U : World) (g n : Nat) (bs cs : Array Value) (hb : Blk U g t bs) (hn : bs.size = n * size) (hn2 : n ≤ 4000000) (hcs : cs.size = size) (h1 : ∀ u ∈ cs.toList, u.oneCell' = true) : ∃ a c w', Hid ((Builtin.append_ #[ts, ts] ts #[.slice (some ⟨g, 0, none⟩) n n, .slice (some ⟨U.heap.size, 0, none⟩) 1 1]).run Tryz.prog (U.alloc (.cells cs t)) = .ok (.slice a (n + 1) c) w') ∧ Hid (w'.ownsRow g t size (.slice a (n + 1) c) (n + 1) (bs.toList ++ cs.toList)) ∧ Hid (∀ p u ds, Blk U p u ds → p ≠ g → Blk w' p u ds) ∧ Hid (∀ w0 : World, Below w0.heap.size w0 U → w0.heap.size ≤ g → Below w0.heap.size w0 w') := by
  have ho := own_blk hb hn (Nat.le_refl g) (by omega)
  obtain ⟨v', w', r1, r2, r3⟩ := append_st t ts size bytes z hts hinfo hzs h0 hby g _ n _ U cs hcs h1 ho (by have := hb.lt; omega) hn2
  obtain ⟨a, c, rfl⟩ := own_shape r2
  refine ⟨a, c, w', hid r1, hid r2, hid fun p u ds hp hne => ?_, hid fun w0 hw hg => ?_⟩
  · exact (r3.block p hp.lt (fun e => hne (by injection e with e; exact e.symm))).trans hp
  · exact hw.trans (grow_bel r3 ho hg hw.size)
theorem moreW (w : World) : Calls Tryz.prog 26 #[] w (MorA w) := by
  go_enter Tryz.func26, Tryz.ntmps26
  go_wp2_with fail
  refine (simpleB _).mono ?_
  rintro e w1 ⟨rfl, b1, b2, b3, hb1⟩
  have hz : w.heap.size < (w.alloc (.cells #[.slice none 0 0] 24)).heap.size := by simp
  have B0 : Blk w1 w.heap.size 24 #[.slice none 0 0] := (Blk.new _ _ _).kept hb1
  have HL : Hid (Below w.heap.size w w1) := hid (bl_then (by exact blBy) hb1)
  clear hb1
  generalize (w.alloc (.cells #[.slice none 0 0] 24)).heap.size = h at *
  go_upto_region 2 with fail
  have HL2 : Hid (Below w1.heap.size w1 (w1.alloc (.cells #[.slice (some ⟨h + 1 + 1 + 1, 0, none⟩) 2 2] 24))) := hid (below_alloc _)
  have BT : Blk (w1.alloc (.cells #[.slice (some ⟨h + 1 + 1 + 1, 0, none⟩) 2 2] 24)) w1.heap.size 24 #[.slice (some ⟨h + 1 + 1 + 1, 0, none⟩) 2 2] := Blk.new _ _ _
  have zt0 := b3.lt
  have zt1 := B0.lt
  replace B0 := B0.kept HL2.out
  replace b1 := b1.kept HL2.out
  replace b2 := b2.kept HL2.out
  replace b3 := b3.kept HL2.out
  replace HL := hid (below_trans HL.out HL2.out)
  clear HL2
  generalize w1.heap.size = tb at *
  generalize w1.alloc (.cells #[.slice (some ⟨h + 1 + 1 + 1, 0, none⟩) 2 2] 24) = U at *
  have z3 := b3.lt
  have zt := BT.lt
  have xt := BT.cellF
  have c8 : U.cell? ⟨h + 1 + 1 + 1, 8, none⟩ = some (.slice (some ⟨h + 1 + 1, 0, none⟩) 3 3) := b3.cell 8 _ rfl
  obtain ⟨a, c, w', HRUN, HO, HB, HBL⟩ := appB 79 45 7 64 (.agg #[.string ⟨#[]⟩, .int .i64 0, .int .i64 0, .int .i64 0, .int .i64 0, .int .i64 0, .int .i64 0]) Tryz.underlying45 Tryz.infoFT18 rfl (by decide) (by decide) U.drew (h + 1 + 1) 3 simB2 #[.string ⟨#[115]⟩, .int .i64 4, .int .i64 14, .int .i64 0, .int .i64 0, .int .i64 0, .int .i64 0] (b2.kept (below_drew1 _)) rfl (by decide) rfl (fun u hu => by simp at hu; rcases hu with rfl | rfl | rfl | rfl | rfl <;> rfl)
  have D0 := HB.out _ _ _ (B0.kept (below_drew1 _)) (by omega)
  have D1 := HB.out _ _ _ (b1.kept (below_drew1 _)) (by omega)
  have D3 := HB.out _ _ _ (b3.kept (below_drew1 _)) (by omega)
  have DT := HB.out _ _ _ (BT.kept (below_drew1 _)) (by omega)
  have HL3 := hid (HBL.out w (bl_drew HL.out) (by omega))
  have HT : Hid (TbR ((w'.setCell ⟨h + 1 + 1 + 1, 8, none⟩ (.slice a (3 + 1) c)).setCell ⟨w.heap.size, 0, none⟩ (.slice (some ⟨h + 1 + 1 + 1, 0, none⟩) 2 2)) (.slice (some ⟨h + 1 + 1 + 1, 0, none⟩) 2 2) (morL h a c)) := hid (by
    have D0' : Blk (w'.setCell ⟨h + 1 + 1 + 1, 8, none⟩ (.slice a (3 + 1) c)) w.heap.size 24 #[.slice none 0 0] := D0.other (by dsimp only; omega) _
    refine ⟨rowOf ((D3.set 8 (.slice a (3 + 1) c)).other (by dsimp only; omega) _) 6 2 _ rfl rfl (by decide), fun x hx => ?_⟩
    rcases List.mem_cons.1 hx with rfl | hx
    · exact ⟨rowS_nil _ _ _, rowS_nil _ _ _, rowOf ((D1.other (by dsimp only; omega) _).other (by dsimp only; omega) _) 2 1 _ rfl rfl (by decide), rowS_nil _ _ _⟩
    · rcases List.mem_cons.1 hx with rfl | hx
      · exact ⟨own_row (own_set18 (own_set18 HO.out D3 (by decide)) D0' (by decide)) (fun _ _ => trivial), rowS_nil _ _ _, rowS_nil _ _ _, rowS_nil _ _ _⟩
      · cases hx)
  have x3 := D3.frz 8
  have y3 := D3.lt
  have e8 : w'.cell? ⟨h + 1 + 1 + 1, 8, none⟩ = some (.slice (some ⟨h + 1 + 1, 0, none⟩) 3 3) := D3.cell 8 _ rfl
  have xT := DT.cellF
  have yT := DT.lt
  have x0 := D0.cellF
  have y0 := D0.lt
  have f0 := D0.frz
  have n1 : tb ≠ h + 1 + 1 + 1 := by omega
  have n2 : w.heap.size ≠ h + 1 + 1 + 1 := by omega
  have n3 : tb ≠ w.heap.size := by omega
  clear HB HBL HO D0 D1 D3 DT B0 b1 b2 b3 BT
  go_region_law (first | (refine step_append18 rfl _ _ 45 45 rfl rfl _ _ (.slice a (3 + 1) c) w' rfl rfl HRUN.out ?_))
  all_goals go_wp2
  all_goals exact bodyPost_ret (v := .agg #[.slice (some ⟨h + 1 + 1 + 1, 0, none⟩) 2 2]) (by simp [results, Tryz.results26, go_sem, x0, y0, f0, n2]) rfl ⟨h, a, c, _, rfl, HT.out, by have := HL3.out; exact blBy⟩
/-- Two lists of changes. -/
theorem rowC {w : World} {l : List CH} {a : Option Addr} {n c : Nat} (h : RowS w AnyZ 4 (.slice a n c) l.length (l.flatMap cCH)) {j : Nat} (hj : j < l.length) : ∃ b o, a = some ⟨b, o, none⟩ ∧ b < w.heap.size ∧ w.cell? ⟨b, o + j * 4, none⟩ = some (.int .i64 l[j].cls) ∧ w.cell? ⟨b, o + j * 4 + 1, none⟩ = some (.int .i64 l[j].what) ∧ w.cell? ⟨b, o + j * 4 + 2, none⟩ = some (.string (strOfNums l[j].ty)) ∧ w.cell? ⟨b, o + j * 4 + 3, none⟩ = some (.int .i64 l[j].num) := by
  obtain ⟨b, o, e, hc⟩ := rowAt (g := cCH) (fun _ => rfl) h (i := j) (x := l[j]) (by simp [hj])
  exact ⟨b, o, e, World.block_lt_of_cell? _ _ (hc 0 _ rfl), hc 0 _ rfl, hc 1 _ rfl, hc 2 _ rfl, hc 3 _ rfl⟩
theorem ch_ne {x y : CH} (h : x.cls ≠ y.cls ∨ x.what ≠ y.what ∨ x.ty ≠ y.ty ∨ x.num ≠ y.num) : x ≠ y := fun e => by subst e; simp at h
theorem ch_cases (x y : CH) : x.cls ≠ y.cls ∨ (x.cls = y.cls ∧ x.what ≠ y.what) ∨ (x.cls = y.cls ∧ x.what = y.what ∧ x.ty ≠ y.ty) ∨ (x.cls = y.cls ∧ x.what = y.what ∧ x.ty = y.ty ∧ x.num ≠ y.num) ∨ x = y := by
  by_cases h1 : x.cls = y.cls
  · by_cases h2 : x.what = y.what
    · by_cases h3 : x.ty = y.ty
      · by_cases h4 : x.num = y.num
        · exact .inr (.inr (.inr (.inr (by cases x; cases y; simp at h1 h2 h3 h4; subst h1 h2 h3 h4; rfl))))
        · exact .inr (.inr (.inr (.inl ⟨h1, h2, h3, h4⟩)))
      · exact .inr (.inr (.inl ⟨h1, h2, h3⟩))
    · exact .inr (.inl ⟨h1, h2⟩)
  · exact .inl h1
theorem sameCT (w : World) (A B : List CH) (aa ba : Option Addr) (ac bc : Nat) (hA : RowS w AnyZ 4 (.slice aa A.length ac) A.length (A.flatMap cCH)) (hB : RowS w AnyZ 4 (.slice ba B.length bc) B.length (B.flatMap cCH)) (tA : ∀ x ∈ A, TxA x.ty) (tB : ∀ x ∈ B, TxA x.ty) : Calls Tryz.prog 10 #[.slice aa A.length ac, .slice ba B.length bc] w (EvE w (A = B)) := by
  have HA := hid hA
  have HB := hid hB
  obtain ⟨_, _, e, hn1⟩ := rowS_sl hA
  clear e
  obtain ⟨_, _, e, hm1⟩ := rowS_sl hB
  clear e
  have TA' := hid tA
  have TB' := hid tB
  clear hA hB tA tB
  by_cases h1 : A.length = B.length
  case neg =>
    have q1 : ((A.length : Int) != (B.length : Int)) = true := by simp; omega
    have q2 : ((A.length : Int) == (B.length : Int)) = false := by rw [beq_eq_false_iff_ne]; omega
    go_enter Tryz.func10, Tryz.ntmps10
    go_wp2
    go_ret
    exact EvE.no (fun q => absurd (by rw [q]) h1) (by first | exact Below.refl _ _ | exact blBy)
  replace HB : Hid (RowS w AnyZ 4 (.slice ba A.length bc) B.length (B.flatMap cCH)) := hid (by rw [h1]; exact HB.out)
  rw [← h1]
  have z1 : (A.length : Int) ≤ 9223372036854775807 := by omega
  have q1 : ((A.length : Int) != (A.length : Int)) = false := by simp
  clear hn1 hm1
  replace h1 := hid h1
  go_enter Tryz.func10, Tryz.ntmps10
  go_wp2
  go_loopw [5] (fun r wr => ∃ j : Nat, r = .int .i64 j ∧ j ≤ A.length ∧ Hid (A.take j = B.take j) ∧ Hid (Below w.heap.size w wr)) (fun r wr => A.length - numAt wr r)
  case atStart => exact ⟨0, rfl, by omega, hid (by simp), hid (Below.refl _ _)⟩
  case round =>
    obtain ⟨j, rfl, hj, HT, hb⟩ := hrel
    by_cases hlt : j < A.length
    · have k1 : (j : Int) < (A.length : Int) := by omega
      have hlt2 : j < B.length := by have := h1.out; omega
      have HTS : Hid (A.take (j + 1) = A.take j ++ [A[j]] ∧ B.take (j + 1) = B.take j ++ [B[j]]) := hid ⟨List.take_succ_eq_append_getElem hlt, List.take_succ_eq_append_getElem hlt2⟩
      have HNE : Hid (A[j] ≠ B[j] → A ≠ B) := hid (fun q e => q (by subst e; rfl))
      have s1 := str_eq (TA'.out _ (List.getElem_mem hlt)).1 (TB'.out _ (List.getElem_mem hlt2)).1
      obtain ⟨pb, po, epb, hpb, c0, c1, c2, c3⟩ := rowC (HA.out.kept hb.out) hlt
      obtain ⟨qb, qo, eqb, hqb, d0, d1, d2, d3⟩ := rowC (HB.out.kept hb.out) hlt2
      subst epb eqb
      generalize A[j] = x at *
      generalize B[j] = y at *
      obtain ⟨xc, xw, xt, xn⟩ := x
      obtain ⟨yc, yw, yt, yn⟩ := y
      dsimp only at c0 c1 c2 c3 d0 d1 d2 d3 s1
      rcases ch_cases ⟨xc, xw, xt, xn⟩ ⟨yc, yw, yt, yn⟩ with h | ⟨g, h⟩ | ⟨g1, g2, h⟩ | ⟨g1, g2, g3, h⟩ | h
      · have HF := hid (HNE.out (ch_ne (.inl h)))
        have e1 : (xc != yc) = true := by simpa using h
        clear HNE HTS h s1
        go_wp2
        go_quiet (fail)
        go_wp2
        go_ret
        exact EvE.no HF.out (by have := hb.out; first | exact this | exact bl_drewN this _ | exact blBy)
      · have HF := hid (HNE.out (ch_ne (.inr (.inl h))))
        dsimp only at g h
        subst g
        have e1 : (xc != xc) = false := by simp
        have e2 : (xw != yw) = true := by simpa using h
        clear HNE HTS h s1
        go_wp2
        go_quiet (fail)
        go_wp2
        go_ret
        exact EvE.no HF.out (by have := hb.out; first | exact this | exact bl_drewN this _ | exact blBy)
      · have HF := hid (HNE.out (ch_ne (.inr (.inr (.inl h)))))
        dsimp only at g1 g2 h
        subst g1 g2
        have e1 : (xc != xc) = false := by simp
        have e2 : (xw != xw) = false := by simp
        rw [decide_eq_false h] at s1
        clear HNE HTS h
        go_wp2
        go_quiet (fail)
        go_wp2
        go_ret
        exact EvE.no HF.out (by have := hb.out; first | exact this | exact bl_drewN this _ | exact blBy)
      · have HF := hid (HNE.out (ch_ne (.inr (.inr (.inr h)))))
        dsimp only at g1 g2 g3 h
        subst g1 g2 g3
        have e1 : (xc != xc) = false := by simp
        have e2 : (xw != xw) = false := by simp
        have e3 : (xn != yn) = true := by simpa using h
        rw [decide_eq_true rfl] at s1
        clear HNE HTS h
        go_wp2
        go_quiet (fail)
        go_wp2
        go_ret
        exact EvE.no HF.out (by have := hb.out; first | exact this | exact bl_drewN this _ | exact blBy)
      · injection h with g1 g2 g3 g4
        subst g1 g2 g3 g4
        have e1 : (xc != xc) = false := by simp
        have e2 : (xw != xw) = false := by simp
        have e3 : (xn != xn) = false := by simp
        rw [decide_eq_true rfl] at s1
        clear HNE
        go_wp2
        go_quiet (fail)
        go_wp2
        exact ⟨⟨j + 1, by simp, by omega, hid (by rw [HTS.out.1, HTS.out.2, HT.out]), hid (by have := hb.out; first | exact this | exact bl_drewN this _ | exact blBy)⟩, by simp [numAt]; omega⟩
    · have k1 : ¬ (j : Int) < (A.length : Int) := by omega
      have E : Hid (A = B) := hid (by have := HT.out; rwa [List.take_of_length_le (by omega), List.take_of_length_le (by have := h1.out; omega)] at this)
      go_wp2
      go_ret
      exact EvE.yes E.out hb.out
theorem Tryz.infoRC : (Tryz.prog.info? 66).map (fun i => (i.zero, i.size, i.bytes)) = some (some (.agg #[.int .i64 0, .int .i64 0, .string ⟨#[]⟩, .int .i64 0]), 4, 40) := by kernel_rfl
/-- One more. -/
theorem appendRC (base : Nat) (v : Value) (l : List CH) (y : CH) (w : World) (h : w.ownsRow base 66 4 v l.length (l.flatMap cCH)) (hb : base ≤ w.heap.size) (hn : l.length ≤ 4000000) :
    ∃ a c w', Hid ((Builtin.append_ #[31, 31] 31 #[v, .slice (some ⟨w.heap.size, 0, none⟩) 1 1]).run Tryz.prog (w.alloc (.cells #[.int .i64 y.cls, .int .i64 y.what, .string (strOfNums y.ty), .int .i64 y.num] 66)) = .ok (.slice a (l.length + 1) c) w') ∧ Hid (w'.ownsRow base 66 4 (.slice a (l.length + 1) c) (l ++ [y]).length ((l ++ [y]).flatMap cCH)) ∧ Hid (Grow w w' v (.slice a (l.length + 1) c)) := by
  obtain ⟨v', w', h1, h2, h3⟩ := append_st 66 31 4 40 (.agg #[.int .i64 0, .int .i64 0, .string ⟨#[]⟩, .int .i64 0]) Tryz.underlying31 Tryz.infoRC rfl (by decide) (by decide) base v l.length (l.flatMap cCH) w #[.int .i64 y.cls, .int .i64 y.what, .string (strOfNums y.ty), .int .i64 y.num] rfl (fun u hu => by simp at hu; rcases hu with rfl | rfl | rfl | rfl <;> rfl) h hb hn
  obtain ⟨a, c, rfl⟩ := own_shape h2
  exact ⟨a, c, w', hid h1, hid (by rw [List.flatMap_append, List.length_append]; exact h2), hid h3⟩
/-- What stays where the document gathers changes: all below base, and all else but rows of its changes. -/
structure RcF (base : Nat) (w w' : World) : Prop where
  os : w'.os = w.os
  tape : w'.tape = w.tape
  output : w'.output = w.output
  size : w.heap.size ≤ w'.heap.size
  block : ∀ k, k < w.heap.size → k < base ∨ (∀ cs fr, w.heap[k]? ≠ some (.cells cs 66 fr)) → w'.heap[k]? = w.heap[k]?
theorem RcF.refl (base : Nat) (w : World) : RcF base w w := ⟨rfl, rfl, rfl, Nat.le_refl _, fun _ _ _ => rfl⟩
theorem RcF.trans {base : Nat} {w w1 w2 : World} (h : RcF base w w1) (g : RcF base w1 w2) : RcF base w w2 :=
  ⟨g.os.trans h.os, g.tape.trans h.tape, g.output.trans h.output, Nat.le_trans h.size g.size, fun k hk hf => by
    have e := h.block k hk hf
    rw [g.block k (Nat.lt_of_lt_of_le hk h.size) (hf.imp id fun h3 cs fr => by rw [e]; exact h3 cs fr), e]⟩
theorem RcF.ofBelow {base : Nat} {w w' : World} (h : Below w.heap.size w w') : RcF base w w' := ⟨h.os, h.tape, h.output, h.size, fun k hk _ => h.block k hk⟩
theorem RcF.below {base : Nat} {w w' : World} (h : RcF base w w') (hb : base ≤ w.heap.size) : Below base w w' := ⟨h.os, h.tape, h.output, h.size, fun k hk => h.block k (by omega) (.inl hk)⟩
theorem Blk.rcf {base : Nat} {w w' : World} {k : Nat} {t : TypeId} {cs : Array Value} (h : Blk w k t cs) (g : RcF base w w') (ht : t ≠ 66) : Blk w' k t cs := by
  refine (g.block k h.lt (.inr fun cs' fr e => ?_)).trans h
  rw [show w.heap[k]? = _ from h] at e
  cases e
  exact ht rfl
theorem RcF.grow {base : Nat} {w w' : World} {v v' : Value} {n : Nat} {fl : List Value} (g : Grow w w' v v') (h : w.ownsRow base 66 4 v n fl) : RcF base w w' :=
  ⟨g.os, g.tape, g.output, g.size, fun k hk hf => g.block k hk fun e => by
    obtain ⟨h1, h2, cur, h3⟩ := own_type h e
    rcases hf with hf | hf
    · omega
    · exact hf _ _ h3⟩
theorem wAt_snoc (b : List RG) (k : Nat) (hk : k < b.length) (x : Int) : wAt (b.take (k + 1)) x = if b[k].lo ≤ wAt (b.take k) x ∧ wAt (b.take k) x ≤ b[k].hi then b[k].hi + 1 else wAt (b.take k) x := by
  unfold wAt
  rw [List.take_succ_eq_append_getElem hk, List.foldl_append]
  rfl
theorem withinR18 (w : World) (A B : List RG) (a b : Option Addr) (c d : Nat) (hA : RowS w AnyZ 2 (.slice a A.length c) A.length (A.flatMap cRG)) (hB : RowS w AnyZ 2 (.slice b B.length d) B.length (B.flatMap cRG)) (hk : ∀ x ∈ B, RgOk x) : Calls Tryz.prog 47 #[.slice a A.length c, .slice b B.length d] w (EvB w (witB A B)) := by
  obtain ⟨_, _, e, hn⟩ := rowS_sl hA
  clear e
  obtain ⟨_, _, e, hn2⟩ := rowS_sl hB
  clear e
  have h63 : (A.length : Int) ≤ 9223372036854775807 := by omega
  have h64 : (B.length : Int) ≤ 9223372036854775807 := by omega
  have HA := hid hA
  have HB := hid hB
  have HK := hid hk
  clear hA hB hk
  go_enter Tryz.func47, Tryz.ntmps47
  go_wp2
  go_loopw [5] (fun r wr => ∃ j : Nat, r = .int .i64 j ∧ j ≤ A.length ∧ Hid (witB (A.take j) B = true) ∧ Hid (Below w.heap.size w wr)) (fun r wr => A.length - numAt wr r)
  case atStart => exact ⟨0, rfl, by omega, hid rfl, hid (Below.refl _ _)⟩
  case round =>
    obtain ⟨j, rfl, hj, HF, hb⟩ := hrel
    by_cases hlt : j < A.length
    · have k1 : (j : Int) < (A.length : Int) := by omega
      obtain ⟨ab, ao, rfl, hbl, c0, c1⟩ := rowG (HA.out.kept hb.out) hlt
      have HS : Hid (witB (A.take (j + 1)) B = decide (A[j].hi < wAt B A[j].lo)) := hid (by
        unfold witB at HF ⊢
        rw [List.take_succ_eq_append_getElem hlt, List.all_append, HF.out]
        simp)
      have HY : Hid (¬ A[j].hi < wAt B A[j].lo → witB A B = false) := hid fun h1 => by
        unfold witB
        rw [List.all_eq_false]
        exact ⟨A[j], List.getElem_mem hlt, by simpa using h1⟩
      generalize A[j] = x at *
      go_wp2
      generalize wr = W2 at *
      go_loopw [6, 7] (fun v r wr => ∃ i : Nat, v = .int .i64 (wAt (B.take i) x.lo) ∧ r = .int .i64 i ∧ i ≤ B.length ∧ Hid (Below W2.heap.size W2 wr)) (fun _ r wr => B.length - numAt wr r)
      case atStart => exact ⟨0, rfl, rfl, by omega, hid (Below.refl _ _)⟩
      case round =>
        obtain ⟨i, rfl, rfl, hi, hb3⟩ := hrel
        have e0 := cell_below c0 hb3.out
        have e1 := cell_below c1 hb3.out
        have hbl2 := World.block_lt_of_cell? _ _ e0
        have HB3 := hid (below_trans hb.out hb3.out)
        clear c0 c1 hbl
        by_cases hlt2 : i < B.length
        · have k2 : (i : Int) < (B.length : Int) := by omega
          obtain ⟨bb, bo, rfl, hbb, f0, f1⟩ := rowG (HB.out.kept HB3.out) hlt2
          have HS2 := hid (wAt_snoc B i hlt2 x.lo)
          have HW := hid (wrH (HK.out B[i] (List.getElem_mem hlt2)).2.2)
          generalize B[i] = z at *
          generalize wAt (B.take i) x.lo = T at *
          have hw := HW.out
          by_cases p1 : z.lo ≤ T
          · have t1 : (z.lo ≤ T) = True := eq_true p1
            by_cases p2 : T ≤ z.hi
            · have t2 : (T ≤ z.hi) = True := eq_true p2
              have HZ := hid (show wAt (B.take (i + 1)) x.lo = z.hi + 1 by rw [HS2.out, if_pos ⟨p1, p2⟩])
              clear p1 p2 HS2
              go_wp2
              exact ⟨⟨i + 1, by rw [HZ.out], by simp, by omega, hb3⟩, by simp [numAt]; omega⟩
            · have t2 : (T ≤ z.hi) = False := eq_false p2
              have HZ := hid (show wAt (B.take (i + 1)) x.lo = T by rw [HS2.out, if_neg (fun h => p2 h.2)])
              clear p1 p2 HS2
              go_wp2
              exact ⟨⟨i + 1, by rw [HZ.out], by simp, by omega, hb3⟩, by simp [numAt]; omega⟩
          · have t1 : (z.lo ≤ T) = False := eq_false p1
            have HZ := hid (show wAt (B.take (i + 1)) x.lo = T by rw [HS2.out, if_neg (fun h => p1 h.1)])
            clear p1 HS2
            go_wp2
            exact ⟨⟨i + 1, by rw [HZ.out], by simp, by omega, hb3⟩, by simp [numAt]; omega⟩
        · have k2 : ¬ (i : Int) < (B.length : Int) := by omega
          have HE : Hid (B.take i = B) := hid (List.take_of_length_le (by omega))
          rw [HE.out]
          clear HE
          generalize wAt B x.lo = T at *
          by_cases p1 : T ≤ x.hi
          · have t1 : (T ≤ x.hi) = True := eq_true p1
            have HZ := hid (HY.out (by omega))
            go_wp2
            go_ret
            exact ⟨ret_bool HZ.out.symm, HB3.out⟩
          · have t1 : (T ≤ x.hi) = False := eq_false p1
            have HZ := hid (show witB (A.take (j + 1)) B = true by rw [HS.out]; simp; omega)
            go_wp2
            exact ⟨⟨j + 1, by simp, by omega, HZ, HB3⟩, by simp [numAt]; omega⟩
    · have k1 : ¬ (j : Int) < (A.length : Int) := by omega
      have HE := hid (show witB A B = true by have := HF.out; rwa [List.take_of_length_le (by omega)] at this)
      go_wp2
      go_ret
      exact ⟨ret_bool HE.out.symm, hb.out⟩
/-- May a field's label change so? -/
def lbB (f g : FT) : Bool := if f.lab ≤ 1 ∧ g.lab ≤ 1 then (f.kind != 17) && (g.kind != 17) else ((f.lab == 2) || (f.lab == 3)) && ((g.lab == 2) || (g.lab == 3))
theorem c23 (n : Int) : n = 2 ∨ n = 3 ∨ ((n == 2) = false ∧ (n == 3) = false) := by
  by_cases h : n = 2
  · exact .inl h
  · by_cases g : n = 3
    · exact .inr (.inl g)
    · exact .inr (.inr ⟨by simpa using h, by simpa using g⟩)
theorem labelsR18 (w : World) (f g : FT) : Calls Tryz.prog 67 #[aFT f, aFT g] w (EvB w (lbB f g)) := by
  obtain ⟨fn, fu, fk, fr, fl, fo, fy⟩ := f
  obtain ⟨gn, gu, gk, gr, gl, go, gy⟩ := g
  unfold aFT
  dsimp only
  have HD : Hid (lbB ⟨fn, fu, fk, fr, fl, fo, fy⟩ ⟨gn, gu, gk, gr, gl, go, gy⟩ = if fl ≤ 1 ∧ gl ≤ 1 then (fk != 17) && (gk != 17) else ((fl == 2) || (fl == 3)) && ((gl == 2) || (gl == 3))) := hid rfl
  generalize lbB ⟨fn, fu, fk, fr, fl, fo, fy⟩ ⟨gn, gu, gk, gr, gl, go, gy⟩ = R at *
  by_cases h1 : fl ≤ 1
  · have t1 : (fl ≤ 1) = True := eq_true h1
    by_cases h2 : gl ≤ 1
    · have t2 : (gl ≤ 1) = True := eq_true h2
      rw [if_pos ⟨h1, h2⟩] at HD
      clear h1 h2
      by_cases h3 : fk = 17
      · subst h3
        go_enter Tryz.func67, Tryz.ntmps67
        go_wp2
        go_ret
        exact ⟨ret_bool (by rw [HD.out]; rfl), by exact blBy⟩
      · have q3 : (fk != 17) = true := by simpa using h3
        go_enter Tryz.func67, Tryz.ntmps67
        go_wp2
        go_ret
        exact ⟨ret_bool (by rw [HD.out, q3]; simp), by exact blBy⟩
    · have t2 : (gl ≤ 1) = False := eq_false h2
      rw [if_neg (fun h => h2 h.2), show (fl == 2) = false by rw [beq_eq_false_iff_ne]; omega, show (fl == 3) = false by rw [beq_eq_false_iff_ne]; omega] at HD
      have q1 : (fl == 2) = false := by rw [beq_eq_false_iff_ne]; omega
      have q2 : (fl == 3) = false := by rw [beq_eq_false_iff_ne]; omega
      clear h1 h2
      go_enter Tryz.func67, Tryz.ntmps67
      go_wp2
      go_ret
      exact ⟨ret_bool (by rw [HD.out]; rfl), by exact blBy⟩
  · have t1 : (fl ≤ 1) = False := eq_false h1
    rw [if_neg (fun h => h1 h.1)] at HD
    clear h1
    rcases c23 fl with rfl | rfl | ⟨q1, q2⟩
    · rcases c23 gl with rfl | rfl | ⟨q3, q4⟩
      all_goals
        go_enter Tryz.func67, Tryz.ntmps67
        go_wp2
        go_ret
        exact ⟨ret_bool (by rw [HD.out]; simp [*]), by exact blBy⟩
    · rcases c23 gl with rfl | rfl | ⟨q3, q4⟩
      all_goals
        go_enter Tryz.func67, Tryz.ntmps67
        go_wp2
        go_ret
        exact ⟨ret_bool (by rw [HD.out]; simp [*]), by exact blBy⟩
    · go_enter Tryz.func67, Tryz.ntmps67
      go_wp2
      go_ret
      exact ⟨ret_bool (by rw [HD.out, q1, q2]; rfl), by exact blBy⟩
def hasN (xs : List FT) (n : Int) : Bool := xs.any (fun f => f.num == n)
theorem has_find (xs : List FT) (n : Int) : (xs.find? (fdI n)).isNone = !(hasN xs n) := by
  unfold hasN fdI
  induction xs with
  | nil => rfl
  | cons x r ih =>
    rw [List.find?_cons, List.any_cons]
    cases h : x.num == n with
    | true => rfl
    | false => simpa using ih
def aTY (t : TT) (fa oa sa ra : Option Addr) (fc oc sc rc : Nat) : Value := .agg #[.string (strOfNums t.name), .bool t.enum, .slice fa t.fs.length fc, .slice oa t.os.length oc, .slice sa t.ss.length sc, .slice ra t.rs.length rc]
theorem freshR18 (w : World) (s t : TT) (fa oa sa ra fb ob sb rb : Option Addr) (fc oc sc rc fd od sd rd : Nat) (hx : RowS w AnyZ 7 (.slice fa s.fs.length fc) s.fs.length (s.fs.flatMap cFT)) (hy : RowS w AnyZ 7 (.slice fb t.fs.length fd) t.fs.length (t.fs.flatMap cFT)) (hl2 : t.fs.length ≤ 4000000) : Calls Tryz.prog 34 #[aTY s fa oa sa ra fc oc sc rc, aTY t fb ob sb rb fd od sd rd] w fun e w' => ∃ va vc, e = .returned (.slice va (frshL s.fs t.fs).length vc) ∧ w'.ownsRow w.heap.size 3 1 (.slice va (frshL s.fs t.fs).length vc) (frshL s.fs t.fs).length ((frshL s.fs t.fs).flatMap cI64) ∧ Below w.heap.size w w' := by
  have m1 : (t.fs.length : Int) ≤ 9223372036854775807 := by omega
  obtain ⟨_, _, e, hn⟩ := rowS_sl hx
  clear e
  have m2 : (s.fs.length : Int) ≤ 9223372036854775807 := by omega
  have HX := hid hx
  have HY := hid hy
  clear hx hy
  unfold aTY
  go_enter Tryz.func34, Tryz.ntmps34
  have BX : Blk ((w.alloc (.cells #[.string (strOfNums s.name), .bool s.enum, .slice fa s.fs.length fc, .slice oa s.os.length oc, .slice sa s.ss.length sc, .slice ra s.rs.length rc] 50)).alloc (.cells #[.string (strOfNums t.name), .bool t.enum, .slice fb t.fs.length fd, .slice ob t.os.length od, .slice sb t.ss.length sd, .slice rb t.rs.length rd] 50)) w.heap.size 50 #[.string (strOfNums s.name), .bool s.enum, .slice fa s.fs.length fc, .slice oa s.os.length oc, .slice sa s.ss.length sc, .slice ra s.rs.length rc] := (Blk.new _ _ _).kept (below_alloc _)
  have BY : Blk ((w.alloc (.cells #[.string (strOfNums s.name), .bool s.enum, .slice fa s.fs.length fc, .slice oa s.os.length oc, .slice sa s.ss.length sc, .slice ra s.rs.length rc] 50)).alloc (.cells #[.string (strOfNums t.name), .bool t.enum, .slice fb t.fs.length fd, .slice ob t.os.length od, .slice sb t.ss.length sd, .slice rb t.rs.length rd] 50)) (w.heap.size + 1) 50 #[.string (strOfNums t.name), .bool t.enum, .slice fb t.fs.length fd, .slice ob t.os.length od, .slice sb t.ss.length sd, .slice rb t.rs.length rd] := Blk.newAt (by simp)
  have HL : Hid (Below w.heap.size w ((w.alloc (.cells #[.string (strOfNums s.name), .bool s.enum, .slice fa s.fs.length fc, .slice oa s.os.length oc, .slice sa s.ss.length sc, .slice ra s.rs.length rc] 50)).alloc (.cells #[.string (strOfNums t.name), .bool t.enum, .slice fb t.fs.length fd, .slice ob t.os.length od, .slice sb t.ss.length sd, .slice rb t.rs.length rd] 50))) := hid (by exact blBy)
  go_wp2
  generalize (w.alloc (.cells #[.string (strOfNums s.name), .bool s.enum, .slice fa s.fs.length fc, .slice oa s.os.length oc, .slice sa s.ss.length sc, .slice ra s.rs.length rc] 50)).alloc (.cells #[.string (strOfNums t.name), .bool t.enum, .slice fb t.fs.length fd, .slice ob t.os.length od, .slice sb t.ss.length sd, .slice rb t.rs.length rd] 50) = U at *
  have HBX := hid BX
  have HBY := hid BY
  clear BX BY
  go_loopw [5, 6] (fun v r wr => ∃ (j : Nat) (va : Option Addr) (vn vc : Nat), v = .slice va vn vc ∧ r = .int .i64 j ∧ j ≤ t.fs.length ∧ Hid (vn = (frshL s.fs (t.fs.take j)).length) ∧ Hid (wr.ownsRow U.heap.size 3 1 (.slice va vn vc) (frshL s.fs (t.fs.take j)).length ((frshL s.fs (t.fs.take j)).flatMap cI64)) ∧ Hid (Below U.heap.size U wr)) (fun _ r wr => t.fs.length - numAt wr r)
  case atStart => exact ⟨0, none, 0, 0, rfl, rfl, by omega, hid rfl, hid (World.ownsRow_nil _ _ _ _), hid (Below.refl _ _)⟩
  case round =>
    obtain ⟨j, va, vn, vc, rfl, rfl, hj, HN, HV, hb⟩ := hrel
    have x1 := (HBX.out.kept hb.out).cellF
    have z1 := (HBX.out.kept hb.out).lt
    have x2 := (HBY.out.kept hb.out).cellF
    have z2 := (HBY.out.kept hb.out).lt
    by_cases hlt : j < t.fs.length
    · have h2 : (j : Int) < (t.fs.length : Int) := by omega
      obtain ⟨b1, o1, rfl, hb1, c0, c1, c2, c3, c4, c5, c6⟩ := row7 ((HY.out.kept HL.out).kept hb.out) hlt
      have HS := hid (frsh_snoc s.fs t.fs j hlt)
      have HLE : Hid ((frshL s.fs (t.fs.take j)).length ≤ 4000000) := hid (by have := frsh_le s.fs (t.fs.take j); rw [List.length_take] at this; omega)
      rw [has_find] at HS
      generalize t.fs[j] = f at *
      obtain ⟨n1, f1, f2, f3, f4, f5, f6⟩ := f
      dsimp only at c0 c1 c2 c3 c4 c5 c6 HS
      clear c0 c2 c3 c4 c5 c6
      go_wp2
      generalize wr = W1 at *
      go_loopw [7, 8] (fun v r wq => ∃ (i : Nat), v = .bool (hasN (s.fs.take i) f1) ∧ r = .int .i64 i ∧ i ≤ s.fs.length ∧ Hid (Below W1.heap.size W1 wq)) (fun _ r wq => s.fs.length - numAt wq r)
      case atStart => exact ⟨0, rfl, rfl, by omega, hid (Below.refl _ _)⟩
      case round =>
        obtain ⟨i, rfl, rfl, hi, hbq⟩ := hrel
        clear x1 x2 z1 z2 hb1
        replace c1 := cell_below c1 hbq.out
        have hb1 : b1 < wr.heap.size := World.block_lt_of_cell? _ _ c1
        replace HV := hid (own_kept HV.out hbq.out)
        replace hb := hid (below_trans hb.out hbq.out)
        have x1 := (HBX.out.kept hb.out).cellF
        have z1 := (HBX.out.kept hb.out).lt
        have x2 := (HBY.out.kept hb.out).cellF
        have z2 := (HBY.out.kept hb.out).lt
        by_cases hlt2 : i < s.fs.length
        · have h3 : (i : Int) < (s.fs.length : Int) := by omega
          obtain ⟨b2, o2, rfl, hb2, -, d1, -⟩ := row7 ((HX.out.kept HL.out).kept hb.out) hlt2
          have HT : Hid (hasN (s.fs.take (i + 1)) f1 = (hasN (s.fs.take i) f1 || s.fs[i].num == f1)) := hid (by unfold hasN; rw [List.take_succ_eq_append_getElem hlt2, List.any_append]; simp)
          generalize s.fs[i] = g at *
          generalize hasN (s.fs.take i) f1 = ha at *
          cases ha with
          | true =>
            go_wp2
            go_quiet (fail)
            go_wp2
            exact ⟨⟨i + 1, by rw [HT.out]; rfl, by simp, by omega, hid (by have := hbq.out; first | exact this | exact bl_drewN this _ | exact bl_drew this)⟩, by simp [numAt]; omega⟩
          | false =>
            go_wp2
            go_quiet (fail)
            go_wp2
            exact ⟨⟨i + 1, by rw [HT.out]; simp, by simp, by omega, hid (by have := hbq.out; first | exact this | exact bl_drewN this _ | exact bl_drew this)⟩, by simp [numAt]; omega⟩
        · have h3 : ¬ (i : Int) < (s.fs.length : Int) := by omega
          have HE : Hid (s.fs.take i = s.fs) := hid (List.take_of_length_le (by omega))
          rw [HE.out]
          clear HE
          generalize hasN s.fs f1 = ha at *
          cases ha with
          | true =>
            have HS2 := hid (show frshL s.fs (t.fs.take (j + 1)) = frshL s.fs (t.fs.take j) by rw [HS.out]; simp)
            go_wp2
            exact ⟨⟨j + 1, va, vn, vc, rfl, by simp, by omega, hid (by rw [HS2.out]; exact HN.out), hid (by rw [HS2.out]; exact HV.out), hb⟩, by simp [numAt]; omega⟩
          | false =>
            have HS2 := hid (show frshL s.fs (t.fs.take (j + 1)) = frshL s.fs (t.fs.take j) ++ [f1] by rw [HS.out]; simp)
            obtain ⟨a5, c5, w5, HRUN, HO5, HG5⟩ := appendIn U.heap.size (.slice va vn vc) (frshL s.fs (t.fs.take j)) f1 wr HV.out hb.out.size HLE.out
            rw [← HN.out] at HRUN HO5 HG5
            have eN : (frshL s.fs (t.fs.take j)).length = vn := HN.out.symm
            go_wp2_with (first | (at_builtin; refine wpList_append_ran rfl _ _ 36 36 rfl rfl _ _ (.slice a5 (vn + 1) c5) w5 rfl rfl HRUN.out ?_))
            exact ⟨⟨j + 1, a5, vn + 1, c5, rfl, by simp, by omega, hid (by rw [HS2.out, List.length_append, HN.out]; rfl), hid (by rw [HS2.out]; exact HO5.out), hid (hb.out.trans (Grow.below HG5.out hb.out.size (fun k hk => (own_type HV.out hk).1)))⟩, by simp [numAt]; omega⟩
    · have h2 : ¬ (j : Int) < (t.fs.length : Int) := by omega
      have HE : Hid (t.fs.take j = t.fs) := hid (List.take_of_length_le (by omega))
      go_wp2
      go_ret
      rw [HE.out] at HN HV
      rw [HN.out] at HV ⊢
      exact ⟨va, vc, rfl, own_mono HV.out HL.out.size, below_trans HL.out hb.out⟩
theorem fnd_idx (p : TV → Bool) : ∀ (l : List TV) (i : Nat), fnd p l i = match l.findIdx? p with
    | none => -1
    | some k => ((i + k : Nat) : Int)
  | [], i => rfl
  | x :: r, i => by
    rw [fnd, List.findIdx?_cons]
    cases h : p x with
    | true => simp
    | false =>
      simp only [Bool.false_eq_true, if_false]
      rw [fnd_idx p r (i + 1)]
      cases r.findIdx? p with
      | none => rfl
      | some k =>
        show ((i + 1 + k : Nat) : Int) = ((i + (k + 1) : Nat) : Int)
        congr 1
        omega
theorem findI_idx (l : List TV) (nm : List Int) : findI l nm = match l.findIdx? (nameP nm) with
    | none => -1
    | some k => (k : Int) := by
  unfold findI
  rw [fnd_idx]
  cases l.findIdx? (nameP nm) with
  | none => rfl
  | some k => simp
set_option maxHeartbeats 2000000
theorem refN_at {l : List TV} {f : FT} (h : f.kind = 16 ∨ f.kind = 17) {k : Nat} (hk : k < l.length) (e : f.ref = k) : refN l f = l[k].t.name := by
  unfold refN
  rw [if_pos h, e]
  simp [hk]
theorem refN_no {l : List TV} {f : FT} (h : ¬ (f.kind = 16 ∨ f.kind = 17)) : refN l f = [] := by unfold refN; rw [if_neg h]
theorem oneN_at {t : TT} {f : FT} (h : f.lab = 4) {k : Nat} (hk : k < t.os.length) (e : f.one = k) : oneN t f = t.os[k] := by
  unfold oneN
  rw [if_pos h, e]
  simp [hk]
theorem oneN_no {t : TT} {f : FT} (h : ¬ f.lab = 4) : oneN t f = [] := by unfold oneN; rw [if_neg h]
theorem rowN {w : World} {l : List (List Int)} {a : Option Addr} {n c : Nat} (h : RowS w AnyZ 1 (.slice a n c) l.length (l.flatMap cN)) {j : Nat} (hj : j < l.length) : ∃ b o, a = some ⟨b, o, none⟩ ∧ b < w.heap.size ∧ w.cell? ⟨b, o + j, none⟩ = some (.string (strOfNums l[j])) := by
  obtain ⟨b, o, e, hc⟩ := rowAt (g := cN) (K := 1) (fun _ => rfl) h (i := j) (x := l[j]) (by simp [hj])
  have := hc 0 _ rfl
  rw [Nat.mul_one, Nat.add_zero] at this
  exact ⟨b, o, e, World.block_lt_of_cell? _ _ this, this⟩
end Go.Proofs.YtmjgonckadcbkaaGreatDoor
