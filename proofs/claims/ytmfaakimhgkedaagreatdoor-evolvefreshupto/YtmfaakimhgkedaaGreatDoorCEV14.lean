/-
  The examples' tables; two lists of changes; the layer is awake.
  The document's Fresh.
  The layer is awake.
  A name's names (the document's).
-/
import Derived.Test.YtmfaakimhgkedaaGreatDoorCEV11
import Derived.Test.YtmfaakimhgkedaaGreatDoorCTY
import Derived.Test.YtmfaakimhgkedaaGreatDoorCTP
namespace Go.Proofs.YtmfaakimhgkedaaGreatDoor
open Go.RowKit
set_option maxRecDepth 1000000
set_option linter.unusedVariables false
set_option linter.unusedSimpArgs false
set_option maxHeartbeats 1000000
/-- A block of rows, as one's own. -/
theorem own_blk {w : World} {p n size base : Nat} {t : TypeId} {cs : Array Value} (h : Blk w p t cs) (hs : cs.size = n * size) (hb : base ≤ p) (hn : n ≤ 9223372036854775807) : w.ownsRow base t size (.slice (some ⟨p, 0, none⟩) n n) n cs.toList :=
  ⟨by simpa using hs, .inr ⟨p, n, cs, rfl, hb, h, Nat.le_refl _, hn, hs, by rw [← hs]; exact List.take_length⟩⟩
def simB1 : Array Value := #[.string ⟨#[65]⟩, .int .i64 0]
def simB2 : Array Value := #[.string ⟨#[120]⟩, .int .i64 1, .int .i64 2, .int .i64 0, .int .i64 0, .int .i64 0, .int .i64 0, .string ⟨#[108]⟩, .int .i64 2, .int .i64 4, .int .i64 0, .int .i64 3, .int .i64 0, .int .i64 0, .string ⟨#[109]⟩, .int .i64 3, .int .i64 17, .int .i64 1, .int .i64 1, .int .i64 0, .int .i64 0]
def simB3 (h : Nat) : Array Value := #[.string ⟨#[69]⟩, .bool true, .slice none 0 0, .slice none 0 0, .slice (some ⟨h + 1, 0, none⟩) 1 1, .slice none 0 0, .string ⟨#[77]⟩, .bool false, .slice (some ⟨h + 1 + 1, 0, none⟩) 3 3, .slice none 0 0, .slice none 0 0, .slice none 0 0]
/-- The examples' table, by its blocks. -/
theorem simpleB (w : World) : Calls Tryz.prog 25 #[] w fun e w' => e = .returned (.agg #[.slice (some ⟨w.heap.size + 1 + 1 + 1, 0, none⟩) 2 2]) ∧ Blk w' (w.heap.size + 1) 77 simB1 ∧ Blk w' (w.heap.size + 1 + 1) 79 simB2 ∧ Blk w' (w.heap.size + 1 + 1 + 1) 50 (simB3 w.heap.size) ∧ Below w.heap.size w w' := by
  go_enter Tryz.func25, Tryz.ntmps25
  go_wp2
  refine bodyPost_ret (v := .agg #[.slice (some ⟨w.heap.size + 1 + 1 + 1, 0, none⟩) 2 2]) (by simp [results, Tryz.results25, go_sem]) rfl ⟨rfl, ?_, ?_, ?_, by exact blBy⟩
  · exact ((Blk.newAt (by simp)).kept (below_alloc _)).kept (below_alloc _)
  · exact (Blk.newAt (by simp)).kept (below_alloc _)
  · exact Blk.newAt (by simp)
def morF : List FT := simF ++ [⟨[115], 4, 14, 0, 0, 0, 0⟩]
def morL (h : Nat) (fa : Option Addr) (fc : Nat) : List TV := [simE h, ⟨⟨[77], false, morF, [], [], []⟩, .slice fa 4 fc, .slice none 0 0, .slice none 0 0, .slice none 0 0⟩]
theorem morGood (h : Nat) (fa : Option Addr) (fc : Nat) : goodB (morL h fa fc) = true := by kernel_rfl
theorem simMore (h g : Nat) (fa : Option Addr) (fc : Nat) : difL (simL h) (morL g fa fc) = [⟨2, 6, [77], 4⟩] := by kernel_rfl
theorem morOk (h : Nat) (fa : Option Addr) (fc : Nat) : ∀ x ∈ morL h fa fc, OkV x := by
  intro x hx
  rcases List.mem_cons.1 hx with rfl | hx
  · exact simOk h _ (by simp [simL])
  · rcases List.mem_cons.1 hx with rfl | hx
    · have q := simOk h (simM h) (by simp [simL])
      refine ⟨⟨q.ok.nm, fun f hf => ?_, by simp, by simp⟩, by simp, by simp [morF, simF]⟩
      rcases List.mem_append.1 hf with hf | hf
      · exact q.ok.fs f hf
      · simp at hf
        subst hf
        exact ⟨by decide, by decide⟩
    · cases hx
theorem Tryz.infoFT18 : (Tryz.prog.info? 79).map (fun i => (i.zero, i.size, i.bytes)) = some (some (.agg #[.string ⟨#[]⟩, .int .i64 0, .int .i64 0, .int .i64 0, .int .i64 0, .int .i64 0, .int .i64 0]), 7, 64) := by kernel_rfl
/-- What More answers. -/
def MorA (w : World) (e : Ending) (w' : World) : Prop := ∃ h fa fc ta, e = .returned (.agg #[.slice ta 2 2]) ∧ TbR w' (.slice ta 2 2) (morL h fa fc) ∧ Below w.heap.size w w'
theorem step_append18 {P : Program} {ops : Array Oper} {o : Oper} {a : Act} {w : World} {K : Act → World → Prop} {Q : Exit → Act → World → Prop} {E : Prop}
    (hg : o.guard = none) (s x : Operand) (t ty : TypeId) (hop : o.op = Op.call { callee := Callee.builtin Builtin.append, args := #[s, x], argTypes := #[t, t] }) (hty : o.type = ty)
    (v xv v' : Value) (w' : World) (hs : a.eval s = v) (hx : a.eval x = xv) (hr : (Builtin.append_ #[t, t] ty #[v, xv]).run P w = .ok v' w') (hK : K (a.put o.dst v') w') :
    if Region.wanted o (yielded ops a.tmps) = true then Oper.wp P o a w K Q else E := by
  have hw : Region.wanted o (yielded ops a.tmps) = true := by simp [Region.wanted, hg]
  rw [if_pos hw]
  subst hty
  unfold Oper.wp
  simp [execOp, hop, resolve, invoke, builtin, hs, hx, hr, Result.andThen]
  exact hK
/-- A row of one's own stays where another block is written. -/
theorem own_set18 {w : World} {base e size n p i : Nat} {v u : Value} {fl : List Value} {t : TypeId} {cs : Array Value} (h : w.ownsRow base e size v n fl) (hp : Blk w p t cs) (hne : e ≠ t) : (w.setCell ⟨p, i, none⟩ u).ownsRow base e size v n fl :=
  own_keep (f := (· ≠ p)) h (fun k hk e' => by
    obtain ⟨_, _, cur, h3⟩ := own_type h hk
    subst e'
    rw [show w.heap[k]? = _ from hp] at h3
    cases h3
    exact hne rfl) (Keep.setCell w _ u (fun q => q rfl))
/-- A struct more, at the end of a block of rows. -/
theorem appB (t ts : TypeId) (size bytes : Nat) (z : Value) (hts : Tryz.prog.underlying ts = some (.slice t)) (hinfo : (Tryz.prog.info? t).map (fun i => (i.zero, i.size, i.bytes)) = some (some z, size, bytes)) (hzs : z.cells.size = size) (h0 : 0 < size) (hby : bytes ≤ 400) (U : World) (g n : Nat) (bs cs : Array Value) (hb : Blk U g t bs) (hn : bs.size = n * size) (hn2 : n ≤ 4000000) (hcs : cs.size = size) (h1 : ∀ u ∈ cs.toList, u.oneCell' = true) : ∃ a c w', Hid ((Builtin.append_ #[ts, ts] ts #[.slice (some ⟨g, 0, none⟩) n n, .slice (some ⟨U.heap.size, 0, none⟩) 1 1]).run Tryz.prog (U.alloc (.cells cs t)) = .ok (.slice a (n + 1) c) w') ∧ Hid (w'.ownsRow g t size (.slice a (n + 1) c) (n + 1) (bs.toList ++ cs.toList)) ∧ Hid (∀ p u ds, Blk U p u ds → p ≠ g → Blk w' p u ds) ∧ Hid (∀ w0 : World, Below w0.heap.size w0 U → w0.heap.size ≤ g → Below w0.heap.size w0 w') := by
  have ho := own_blk hb hn (Nat.le_refl g) (by omega)
  obtain ⟨v', w', r1, r2, r3⟩ := append_st t ts size bytes z hts hinfo hzs h0 hby g _ n _ U cs hcs h1 ho (by have := hb.lt; omega) hn2
  obtain ⟨a, c, rfl⟩ := own_shape r2
  refine ⟨a, c, w', hid r1, hid r2, hid fun p u ds hp hne => ?_, hid fun w0 hw hg => ?_⟩
  · exact (r3.block p hp.lt (fun e => hne (by injection e with e; exact e.symm))).trans hp
  · exact hw.trans (grow_bel r3 ho hg hw.size)
theorem moreW (w : World) : Calls Tryz.prog 26 #[] w (MorA w) := by
  go_enter Tryz.func26, Tryz.ntmps26
  go_wp2_with fail
  refine (simpleB _).mono ?_
  rintro e w1 ⟨rfl, b1, b2, b3, hb1⟩
  have hz : w.heap.size < (w.alloc (.cells #[.slice none 0 0] 24)).heap.size := by simp
  have B0 : Blk w1 w.heap.size 24 #[.slice none 0 0] := (Blk.new _ _ _).kept hb1
  have HL : Hid (Below w.heap.size w w1) := hid (bl_then (by exact blBy) hb1)
  clear hb1
  generalize (w.alloc (.cells #[.slice none 0 0] 24)).heap.size = h at *
  go_upto_region 2 with fail
  have HL2 : Hid (Below w1.heap.size w1 (w1.alloc (.cells #[.slice (some ⟨h + 1 + 1 + 1, 0, none⟩) 2 2] 24))) := hid (below_alloc _)
  have BT : Blk (w1.alloc (.cells #[.slice (some ⟨h + 1 + 1 + 1, 0, none⟩) 2 2] 24)) w1.heap.size 24 #[.slice (some ⟨h + 1 + 1 + 1, 0, none⟩) 2 2] := Blk.new _ _ _
  have zt0 := b3.lt
  have zt1 := B0.lt
  replace B0 := B0.kept HL2.out
  replace b1 := b1.kept HL2.out
  replace b2 := b2.kept HL2.out
  replace b3 := b3.kept HL2.out
  replace HL := hid (below_trans HL.out HL2.out)
  clear HL2
  generalize w1.heap.size = tb at *
  generalize w1.alloc (.cells #[.slice (some ⟨h + 1 + 1 + 1, 0, none⟩) 2 2] 24) = U at *
  have z3 := b3.lt
  have zt := BT.lt
  have xt := BT.cellF
  have c8 : U.cell? ⟨h + 1 + 1 + 1, 8, none⟩ = some (.slice (some ⟨h + 1 + 1, 0, none⟩) 3 3) := b3.cell 8 _ rfl
  obtain ⟨a, c, w', HRUN, HO, HB, HBL⟩ := appB 79 45 7 64 (.agg #[.string ⟨#[]⟩, .int .i64 0, .int .i64 0, .int .i64 0, .int .i64 0, .int .i64 0, .int .i64 0]) Tryz.underlying45 Tryz.infoFT18 rfl (by decide) (by decide) U.drew (h + 1 + 1) 3 simB2 #[.string ⟨#[115]⟩, .int .i64 4, .int .i64 14, .int .i64 0, .int .i64 0, .int .i64 0, .int .i64 0] (b2.kept (below_drew1 _)) rfl (by decide) rfl (fun u hu => by simp at hu; rcases hu with rfl | rfl | rfl | rfl | rfl <;> rfl)
  have D0 := HB.out _ _ _ (B0.kept (below_drew1 _)) (by omega)
  have D1 := HB.out _ _ _ (b1.kept (below_drew1 _)) (by omega)
  have D3 := HB.out _ _ _ (b3.kept (below_drew1 _)) (by omega)
  have DT := HB.out _ _ _ (BT.kept (below_drew1 _)) (by omega)
  have HL3 := hid (HBL.out w (bl_drew HL.out) (by omega))
  have HT : Hid (TbR ((w'.setCell ⟨h + 1 + 1 + 1, 8, none⟩ (.slice a (3 + 1) c)).setCell ⟨w.heap.size, 0, none⟩ (.slice (some ⟨h + 1 + 1 + 1, 0, none⟩) 2 2)) (.slice (some ⟨h + 1 + 1 + 1, 0, none⟩) 2 2) (morL h a c)) := hid (by
    have D0' : Blk (w'.setCell ⟨h + 1 + 1 + 1, 8, none⟩ (.slice a (3 + 1) c)) w.heap.size 24 #[.slice none 0 0] := D0.other (by dsimp only; omega) _
    refine ⟨rowOf ((D3.set 8 (.slice a (3 + 1) c)).other (by dsimp only; omega) _) 6 2 _ rfl rfl (by decide), fun x hx => ?_⟩
    rcases List.mem_cons.1 hx with rfl | hx
    · exact ⟨rowS_nil _ _ _, rowS_nil _ _ _, rowOf ((D1.other (by dsimp only; omega) _).other (by dsimp only; omega) _) 2 1 _ rfl rfl (by decide), rowS_nil _ _ _⟩
    · rcases List.mem_cons.1 hx with rfl | hx
      · exact ⟨own_row (own_set18 (own_set18 HO.out D3 (by decide)) D0' (by decide)) (fun _ _ => trivial), rowS_nil _ _ _, rowS_nil _ _ _, rowS_nil _ _ _⟩
      · cases hx)
  have x3 := D3.frz 8
  have y3 := D3.lt
  have e8 : w'.cell? ⟨h + 1 + 1 + 1, 8, none⟩ = some (.slice (some ⟨h + 1 + 1, 0, none⟩) 3 3) := D3.cell 8 _ rfl
  have xT := DT.cellF
  have yT := DT.lt
  have x0 := D0.cellF
  have y0 := D0.lt
  have f0 := D0.frz
  have n1 : tb ≠ h + 1 + 1 + 1 := by omega
  have n2 : w.heap.size ≠ h + 1 + 1 + 1 := by omega
  have n3 : tb ≠ w.heap.size := by omega
  clear HB HBL HO D0 D1 D3 DT B0 b1 b2 b3 BT
  go_region_law (first | (refine step_append18 rfl _ _ 45 45 rfl rfl _ _ (.slice a (3 + 1) c) w' rfl rfl HRUN.out ?_))
  all_goals go_wp2
  all_goals exact bodyPost_ret (v := .agg #[.slice (some ⟨h + 1 + 1 + 1, 0, none⟩) 2 2]) (by simp [results, Tryz.results26, go_sem, x0, y0, f0, n2]) rfl ⟨h, a, c, _, rfl, HT.out, by have := HL3.out; exact blBy⟩
/-- Two lists of changes. -/
theorem rowC {w : World} {l : List CH} {a : Option Addr} {n c : Nat} (h : RowS w AnyZ 4 (.slice a n c) l.length (l.flatMap cCH)) {j : Nat} (hj : j < l.length) : ∃ b o, a = some ⟨b, o, none⟩ ∧ b < w.heap.size ∧ w.cell? ⟨b, o + j * 4, none⟩ = some (.int .i64 l[j].cls) ∧ w.cell? ⟨b, o + j * 4 + 1, none⟩ = some (.int .i64 l[j].what) ∧ w.cell? ⟨b, o + j * 4 + 2, none⟩ = some (.string (strOfNums l[j].ty)) ∧ w.cell? ⟨b, o + j * 4 + 3, none⟩ = some (.int .i64 l[j].num) := by
  obtain ⟨b, o, e, hc⟩ := rowAt (g := cCH) (fun _ => rfl) h (i := j) (x := l[j]) (by simp [hj])
  exact ⟨b, o, e, World.block_lt_of_cell? _ _ (hc 0 _ rfl), hc 0 _ rfl, hc 1 _ rfl, hc 2 _ rfl, hc 3 _ rfl⟩
theorem ch_ne {x y : CH} (h : x.cls ≠ y.cls ∨ x.what ≠ y.what ∨ x.ty ≠ y.ty ∨ x.num ≠ y.num) : x ≠ y := fun e => by subst e; simp at h
theorem ch_cases (x y : CH) : x.cls ≠ y.cls ∨ (x.cls = y.cls ∧ x.what ≠ y.what) ∨ (x.cls = y.cls ∧ x.what = y.what ∧ x.ty ≠ y.ty) ∨ (x.cls = y.cls ∧ x.what = y.what ∧ x.ty = y.ty ∧ x.num ≠ y.num) ∨ x = y := by
  by_cases h1 : x.cls = y.cls
  · by_cases h2 : x.what = y.what
    · by_cases h3 : x.ty = y.ty
      · by_cases h4 : x.num = y.num
        · exact .inr (.inr (.inr (.inr (by cases x; cases y; simp at h1 h2 h3 h4; subst h1 h2 h3 h4; rfl))))
        · exact .inr (.inr (.inr (.inl ⟨h1, h2, h3, h4⟩)))
      · exact .inr (.inr (.inl ⟨h1, h2, h3⟩))
    · exact .inr (.inl ⟨h1, h2⟩)
  · exact .inl h1
theorem sameCT (w : World) (A B : List CH) (aa ba : Option Addr) (ac bc : Nat) (hA : RowS w AnyZ 4 (.slice aa A.length ac) A.length (A.flatMap cCH)) (hB : RowS w AnyZ 4 (.slice ba B.length bc) B.length (B.flatMap cCH)) (tA : ∀ x ∈ A, TxA x.ty) (tB : ∀ x ∈ B, TxA x.ty) : Calls Tryz.prog 10 #[.slice aa A.length ac, .slice ba B.length bc] w (EvE w (A = B)) := by
  have HA := hid hA
  have HB := hid hB
  obtain ⟨_, _, e, hn1⟩ := rowS_sl hA
  clear e
  obtain ⟨_, _, e, hm1⟩ := rowS_sl hB
  clear e
  have TA' := hid tA
  have TB' := hid tB
  clear hA hB tA tB
  by_cases h1 : A.length = B.length
  case neg =>
    have q1 : ((A.length : Int) != (B.length : Int)) = true := by simp; omega
    have q2 : ((A.length : Int) == (B.length : Int)) = false := by rw [beq_eq_false_iff_ne]; omega
    go_enter Tryz.func10, Tryz.ntmps10
    go_wp2
    go_ret
    exact EvE.no (fun q => absurd (by rw [q]) h1) (by first | exact Below.refl _ _ | exact blBy)
  replace HB : Hid (RowS w AnyZ 4 (.slice ba A.length bc) B.length (B.flatMap cCH)) := hid (by rw [h1]; exact HB.out)
  rw [← h1]
  have z1 : (A.length : Int) ≤ 9223372036854775807 := by omega
  have q1 : ((A.length : Int) != (A.length : Int)) = false := by simp
  clear hn1 hm1
  replace h1 := hid h1
  go_enter Tryz.func10, Tryz.ntmps10
  go_wp2
  go_loopw [5] (fun r wr => ∃ j : Nat, r = .int .i64 j ∧ j ≤ A.length ∧ Hid (A.take j = B.take j) ∧ Hid (Below w.heap.size w wr)) (fun r wr => A.length - numAt wr r)
  case atStart => exact ⟨0, rfl, by omega, hid (by simp), hid (Below.refl _ _)⟩
  case round =>
    obtain ⟨j, rfl, hj, HT, hb⟩ := hrel
    by_cases hlt : j < A.length
    · have k1 : (j : Int) < (A.length : Int) := by omega
      have hlt2 : j < B.length := by have := h1.out; omega
      have HTS : Hid (A.take (j + 1) = A.take j ++ [A[j]] ∧ B.take (j + 1) = B.take j ++ [B[j]]) := hid ⟨List.take_succ_eq_append_getElem hlt, List.take_succ_eq_append_getElem hlt2⟩
      have HNE : Hid (A[j] ≠ B[j] → A ≠ B) := hid (fun q e => q (by subst e; rfl))
      have s1 := str_eq (TA'.out _ (List.getElem_mem hlt)).1 (TB'.out _ (List.getElem_mem hlt2)).1
      obtain ⟨pb, po, epb, hpb, c0, c1, c2, c3⟩ := rowC (HA.out.kept hb.out) hlt
      obtain ⟨qb, qo, eqb, hqb, d0, d1, d2, d3⟩ := rowC (HB.out.kept hb.out) hlt2
      subst epb eqb
      generalize A[j] = x at *
      generalize B[j] = y at *
      obtain ⟨xc, xw, xt, xn⟩ := x
      obtain ⟨yc, yw, yt, yn⟩ := y
      dsimp only at c0 c1 c2 c3 d0 d1 d2 d3 s1
      rcases ch_cases ⟨xc, xw, xt, xn⟩ ⟨yc, yw, yt, yn⟩ with h | ⟨g, h⟩ | ⟨g1, g2, h⟩ | ⟨g1, g2, g3, h⟩ | h
      · have HF := hid (HNE.out (ch_ne (.inl h)))
        have e1 : (xc != yc) = true := by simpa using h
        clear HNE HTS h s1
        go_wp2
        go_quiet (fail)
        go_wp2
        go_ret
        exact EvE.no HF.out (by have := hb.out; first | exact this | exact bl_drewN this _ | exact blBy)
      · have HF := hid (HNE.out (ch_ne (.inr (.inl h))))
        dsimp only at g h
        subst g
        have e1 : (xc != xc) = false := by simp
        have e2 : (xw != yw) = true := by simpa using h
        clear HNE HTS h s1
        go_wp2
        go_quiet (fail)
        go_wp2
        go_ret
        exact EvE.no HF.out (by have := hb.out; first | exact this | exact bl_drewN this _ | exact blBy)
      · have HF := hid (HNE.out (ch_ne (.inr (.inr (.inl h)))))
        dsimp only at g1 g2 h
        subst g1 g2
        have e1 : (xc != xc) = false := by simp
        have e2 : (xw != xw) = false := by simp
        rw [decide_eq_false h] at s1
        clear HNE HTS h
        go_wp2
        go_quiet (fail)
        go_wp2
        go_ret
        exact EvE.no HF.out (by have := hb.out; first | exact this | exact bl_drewN this _ | exact blBy)
      · have HF := hid (HNE.out (ch_ne (.inr (.inr (.inr h)))))
        dsimp only at g1 g2 g3 h
        subst g1 g2 g3
        have e1 : (xc != xc) = false := by simp
        have e2 : (xw != xw) = false := by simp
        have e3 : (xn != yn) = true := by simpa using h
        rw [decide_eq_true rfl] at s1
        clear HNE HTS h
        go_wp2
        go_quiet (fail)
        go_wp2
        go_ret
        exact EvE.no HF.out (by have := hb.out; first | exact this | exact bl_drewN this _ | exact blBy)
      · injection h with g1 g2 g3 g4
        subst g1 g2 g3 g4
        have e1 : (xc != xc) = false := by simp
        have e2 : (xw != xw) = false := by simp
        have e3 : (xn != xn) = false := by simp
        rw [decide_eq_true rfl] at s1
        clear HNE
        go_wp2
        go_quiet (fail)
        go_wp2
        exact ⟨⟨j + 1, by simp, by omega, hid (by rw [HTS.out.1, HTS.out.2, HT.out]), hid (by have := hb.out; first | exact this | exact bl_drewN this _ | exact blBy)⟩, by simp [numAt]; omega⟩
    · have k1 : ¬ (j : Int) < (A.length : Int) := by omega
      have E : Hid (A = B) := hid (by have := HT.out; rwa [List.take_of_length_le (by omega), List.take_of_length_le (by have := h1.out; omega)] at this)
      go_wp2
      go_ret
      exact EvE.yes E.out hb.out
def hasN (xs : List FT) (n : Int) : Bool := xs.any (fun f => f.num == n)
theorem has_find (xs : List FT) (n : Int) : (xs.find? (fdI n)).isNone = !(hasN xs n) := by
  unfold hasN fdI
  induction xs with
  | nil => rfl
  | cons x r ih =>
    rw [List.find?_cons, List.any_cons]
    cases h : x.num == n with
    | true => rfl
    | false => simpa using ih
def aTY (t : TT) (fa oa sa ra : Option Addr) (fc oc sc rc : Nat) : Value := .agg #[.string (strOfNums t.name), .bool t.enum, .slice fa t.fs.length fc, .slice oa t.os.length oc, .slice sa t.ss.length sc, .slice ra t.rs.length rc]
theorem freshR18 (w : World) (s t : TT) (fa oa sa ra fb ob sb rb : Option Addr) (fc oc sc rc fd od sd rd : Nat) (hx : RowS w AnyZ 7 (.slice fa s.fs.length fc) s.fs.length (s.fs.flatMap cFT)) (hy : RowS w AnyZ 7 (.slice fb t.fs.length fd) t.fs.length (t.fs.flatMap cFT)) (hl2 : t.fs.length ≤ 4000000) : Calls Tryz.prog 34 #[aTY s fa oa sa ra fc oc sc rc, aTY t fb ob sb rb fd od sd rd] w fun e w' => ∃ va vc, e = .returned (.slice va (frshL s.fs t.fs).length vc) ∧ w'.ownsRow w.heap.size 3 1 (.slice va (frshL s.fs t.fs).length vc) (frshL s.fs t.fs).length ((frshL s.fs t.fs).flatMap cI64) ∧ Below w.heap.size w w' := by
  have m1 : (t.fs.length : Int) ≤ 9223372036854775807 := by omega
  obtain ⟨_, _, e, hn⟩ := rowS_sl hx
  clear e
  have m2 : (s.fs.length : Int) ≤ 9223372036854775807 := by omega
  have HX := hid hx
  have HY := hid hy
  clear hx hy
  unfold aTY
  go_enter Tryz.func34, Tryz.ntmps34
  have BX : Blk ((w.alloc (.cells #[.string (strOfNums s.name), .bool s.enum, .slice fa s.fs.length fc, .slice oa s.os.length oc, .slice sa s.ss.length sc, .slice ra s.rs.length rc] 50)).alloc (.cells #[.string (strOfNums t.name), .bool t.enum, .slice fb t.fs.length fd, .slice ob t.os.length od, .slice sb t.ss.length sd, .slice rb t.rs.length rd] 50)) w.heap.size 50 #[.string (strOfNums s.name), .bool s.enum, .slice fa s.fs.length fc, .slice oa s.os.length oc, .slice sa s.ss.length sc, .slice ra s.rs.length rc] := (Blk.new _ _ _).kept (below_alloc _)
  have BY : Blk ((w.alloc (.cells #[.string (strOfNums s.name), .bool s.enum, .slice fa s.fs.length fc, .slice oa s.os.length oc, .slice sa s.ss.length sc, .slice ra s.rs.length rc] 50)).alloc (.cells #[.string (strOfNums t.name), .bool t.enum, .slice fb t.fs.length fd, .slice ob t.os.length od, .slice sb t.ss.length sd, .slice rb t.rs.length rd] 50)) (w.heap.size + 1) 50 #[.string (strOfNums t.name), .bool t.enum, .slice fb t.fs.length fd, .slice ob t.os.length od, .slice sb t.ss.length sd, .slice rb t.rs.length rd] := Blk.newAt (by simp)
  have HL : Hid (Below w.heap.size w ((w.alloc (.cells #[.string (strOfNums s.name), .bool s.enum, .slice fa s.fs.length fc, .slice oa s.os.length oc, .slice sa s.ss.length sc, .slice ra s.rs.length rc] 50)).alloc (.cells #[.string (strOfNums t.name), .bool t.enum, .slice fb t.fs.length fd, .slice ob t.os.length od, .slice sb t.ss.length sd, .slice rb t.rs.length rd] 50))) := hid (by exact blBy)
  go_wp2
  generalize (w.alloc (.cells #[.string (strOfNums s.name), .bool s.enum, .slice fa s.fs.length fc, .slice oa s.os.length oc, .slice sa s.ss.length sc, .slice ra s.rs.length rc] 50)).alloc (.cells #[.string (strOfNums t.name), .bool t.enum, .slice fb t.fs.length fd, .slice ob t.os.length od, .slice sb t.ss.length sd, .slice rb t.rs.length rd] 50) = U at *
  have HBX := hid BX
  have HBY := hid BY
  clear BX BY
  go_loopw [5, 6] (fun v r wr => ∃ (j : Nat) (va : Option Addr) (vn vc : Nat), v = .slice va vn vc ∧ r = .int .i64 j ∧ j ≤ t.fs.length ∧ Hid (vn = (frshL s.fs (t.fs.take j)).length) ∧ Hid (wr.ownsRow U.heap.size 3 1 (.slice va vn vc) (frshL s.fs (t.fs.take j)).length ((frshL s.fs (t.fs.take j)).flatMap cI64)) ∧ Hid (Below U.heap.size U wr)) (fun _ r wr => t.fs.length - numAt wr r)
  case atStart => exact ⟨0, none, 0, 0, rfl, rfl, by omega, hid rfl, hid (World.ownsRow_nil _ _ _ _), hid (Below.refl _ _)⟩
  case round =>
    obtain ⟨j, va, vn, vc, rfl, rfl, hj, HN, HV, hb⟩ := hrel
    have x1 := (HBX.out.kept hb.out).cellF
    have z1 := (HBX.out.kept hb.out).lt
    have x2 := (HBY.out.kept hb.out).cellF
    have z2 := (HBY.out.kept hb.out).lt
    by_cases hlt : j < t.fs.length
    · have h2 : (j : Int) < (t.fs.length : Int) := by omega
      obtain ⟨b1, o1, rfl, hb1, c0, c1, c2, c3, c4, c5, c6⟩ := row7 ((HY.out.kept HL.out).kept hb.out) hlt
      have HS := hid (frsh_snoc s.fs t.fs j hlt)
      have HLE : Hid ((frshL s.fs (t.fs.take j)).length ≤ 4000000) := hid (by have := frsh_le s.fs (t.fs.take j); rw [List.length_take] at this; omega)
      rw [has_find] at HS
      generalize t.fs[j] = f at *
      obtain ⟨n1, f1, f2, f3, f4, f5, f6⟩ := f
      dsimp only at c0 c1 c2 c3 c4 c5 c6 HS
      clear c0 c2 c3 c4 c5 c6
      go_wp2
      generalize wr = W1 at *
      go_loopw [7, 8] (fun v r wq => ∃ (i : Nat), v = .bool (hasN (s.fs.take i) f1) ∧ r = .int .i64 i ∧ i ≤ s.fs.length ∧ Hid (Below W1.heap.size W1 wq)) (fun _ r wq => s.fs.length - numAt wq r)
      case atStart => exact ⟨0, rfl, rfl, by omega, hid (Below.refl _ _)⟩
      case round =>
        obtain ⟨i, rfl, rfl, hi, hbq⟩ := hrel
        clear x1 x2 z1 z2 hb1
        replace c1 := cell_below c1 hbq.out
        have hb1 : b1 < wr.heap.size := World.block_lt_of_cell? _ _ c1
        replace HV := hid (own_kept HV.out hbq.out)
        replace hb := hid (below_trans hb.out hbq.out)
        have x1 := (HBX.out.kept hb.out).cellF
        have z1 := (HBX.out.kept hb.out).lt
        have x2 := (HBY.out.kept hb.out).cellF
        have z2 := (HBY.out.kept hb.out).lt
        by_cases hlt2 : i < s.fs.length
        · have h3 : (i : Int) < (s.fs.length : Int) := by omega
          obtain ⟨b2, o2, rfl, hb2, -, d1, -⟩ := row7 ((HX.out.kept HL.out).kept hb.out) hlt2
          have HT : Hid (hasN (s.fs.take (i + 1)) f1 = (hasN (s.fs.take i) f1 || s.fs[i].num == f1)) := hid (by unfold hasN; rw [List.take_succ_eq_append_getElem hlt2, List.any_append]; simp)
          generalize s.fs[i] = g at *
          generalize hasN (s.fs.take i) f1 = ha at *
          cases ha with
          | true =>
            go_wp2
            go_quiet (fail)
            go_wp2
            exact ⟨⟨i + 1, by rw [HT.out]; rfl, by simp, by omega, hid (by have := hbq.out; first | exact this | exact bl_drewN this _ | exact bl_drew this)⟩, by simp [numAt]; omega⟩
          | false =>
            go_wp2
            go_quiet (fail)
            go_wp2
            exact ⟨⟨i + 1, by rw [HT.out]; simp, by simp, by omega, hid (by have := hbq.out; first | exact this | exact bl_drewN this _ | exact bl_drew this)⟩, by simp [numAt]; omega⟩
        · have h3 : ¬ (i : Int) < (s.fs.length : Int) := by omega
          have HE : Hid (s.fs.take i = s.fs) := hid (List.take_of_length_le (by omega))
          rw [HE.out]
          clear HE
          generalize hasN s.fs f1 = ha at *
          cases ha with
          | true =>
            have HS2 := hid (show frshL s.fs (t.fs.take (j + 1)) = frshL s.fs (t.fs.take j) by rw [HS.out]; simp)
            go_wp2
            exact ⟨⟨j + 1, va, vn, vc, rfl, by simp, by omega, hid (by rw [HS2.out]; exact HN.out), hid (by rw [HS2.out]; exact HV.out), hb⟩, by simp [numAt]; omega⟩
          | false =>
            have HS2 := hid (show frshL s.fs (t.fs.take (j + 1)) = frshL s.fs (t.fs.take j) ++ [f1] by rw [HS.out]; simp)
            obtain ⟨a5, c5, w5, HRUN, HO5, HG5⟩ := appendIn U.heap.size (.slice va vn vc) (frshL s.fs (t.fs.take j)) f1 wr HV.out hb.out.size HLE.out
            rw [← HN.out] at HRUN HO5 HG5
            have eN : (frshL s.fs (t.fs.take j)).length = vn := HN.out.symm
            go_wp2_with (first | (at_builtin; refine wpList_append_ran rfl _ _ 36 36 rfl rfl _ _ (.slice a5 (vn + 1) c5) w5 rfl rfl HRUN.out ?_))
            exact ⟨⟨j + 1, a5, vn + 1, c5, rfl, by simp, by omega, hid (by rw [HS2.out, List.length_append, HN.out]; rfl), hid (by rw [HS2.out]; exact HO5.out), hid (hb.out.trans (Grow.below HG5.out hb.out.size (fun k hk => (own_type HV.out hk).1)))⟩, by simp [numAt]; omega⟩
    · have h2 : ¬ (j : Int) < (t.fs.length : Int) := by omega
      have HE : Hid (t.fs.take j = t.fs) := hid (List.take_of_length_le (by omega))
      go_wp2
      go_ret
      rw [HE.out] at HN HV
      rw [HN.out] at HV ⊢
      exact ⟨va, vc, rfl, own_mono HV.out HL.out.size, below_trans HL.out hb.out⟩
theorem fnd_idx (p : TV → Bool) : ∀ (l : List TV) (i : Nat), fnd p l i = match l.findIdx? p with
    | none => -1
    | some k => ((i + k : Nat) : Int)
  | [], i => rfl
  | x :: r, i => by
    rw [fnd, List.findIdx?_cons]
    cases h : p x with
    | true => simp
    | false =>
      simp only [Bool.false_eq_true, if_false]
      rw [fnd_idx p r (i + 1)]
      cases r.findIdx? p with
      | none => rfl
      | some k =>
        show ((i + 1 + k : Nat) : Int) = ((i + (k + 1) : Nat) : Int)
        congr 1
        omega
theorem findI_idx (l : List TV) (nm : List Int) : findI l nm = match l.findIdx? (nameP nm) with
    | none => -1
    | some k => (k : Int) := by
  unfold findI
  rw [fnd_idx]
  cases l.findIdx? (nameP nm) with
  | none => rfl
  | some k => simp
/-- What Both answers. -/
def BoA18 (a b : List TV) (nm : List Int) (e : Ending) : Prop := ((msgO a nm = none ∨ msgO b nm = none) → e = .returned (.tuple #[.int .i64 0, .int .i64 0, .bool false])) ∧ ∀ x y, msgO a nm = some x → msgO b nm = some y → ∃ (i k : Nat) (hi : i < a.length) (hk : k < b.length), a[i] = x ∧ b[k] = y ∧ e = .returned (.tuple #[.int .i64 i, .int .i64 k, .bool true])
theorem msgO_cases (l : List TV) (nm : List Int) : (findI l nm < 0 ∧ msgO l nm = none) ∨ ∃ (k : Nat) (hk : k < l.length), findI l nm = k ∧ msgO l nm = if l[k].t.enum = true then none else some l[k] := by
  rw [findI_idx]
  unfold msgO
  cases h : l.findIdx? (nameP nm) with
  | none => exact .inl ⟨by decide, rfl⟩
  | some k =>
    rw [List.findIdx?_eq_some_iff_getElem] at h
    obtain ⟨hk, -⟩ := h
    exact .inr ⟨k, hk, rfl, by simp [hk]⟩
theorem bothR (w : World) (a b : List TV) (ta tb : Option Addr) (tc td : Nat) (ha : TbR w (.slice ta a.length tc) a) (hb : TbR w (.slice tb b.length td) b) (ka : ∀ x ∈ a, TxA x.t.name) (kb : ∀ x ∈ b, TxA x.t.name) (nm : List Int) (hn : TxA nm) : Calls Tryz.prog 14 #[.agg #[.slice ta a.length tc], .agg #[.slice tb b.length td], .string (strOfNums nm)] w fun e w' => BoA18 a b nm e ∧ Below w.heap.size w w' := by
  have HF1 := hid fun W (hW : Below w.heap.size w W) => findR W a ta tc (ha.kept hW) ka nm hn
  have HF2 := hid fun W (hW : Below w.heap.size w W) => findR W b tb td (hb.kept hW) kb nm hn
  have HA := hid ha
  have HB := hid hb
  have HC1 := hid (msgO_cases a nm)
  have HC2 := hid (msgO_cases b nm)
  have HNO : Hid (msgO a nm = none ∨ msgO b nm = none → BoA18 a b nm (.returned (.tuple #[.int .i64 0, .int .i64 0, .bool false]))) := hid fun h => ⟨fun _ => rfl, fun x y hx hy => by
    rcases h with h | h
    · rw [h] at hx; cases hx
    · rw [h] at hy; cases hy⟩
  have HYES : Hid (∀ (i k : Nat) (hi : i < a.length) (hk : k < b.length), msgO a nm = some a[i] → msgO b nm = some b[k] → BoA18 a b nm (.returned (.tuple #[.int .i64 i, .int .i64 k, .bool true]))) := hid fun i k hi hk h1 h2 => ⟨fun h => (by
    rcases h with h | h
    · rw [h] at h1; cases h1
    · rw [h] at h2; cases h2), fun x y hx hy => by
    rw [h1] at hx
    rw [h2] at hy
    cases hx
    cases hy
    exact ⟨i, k, hi, hk, rfl, rfl, rfl⟩⟩
  clear ha hb ka kb hn
  go_enter Tryz.func14, Tryz.ntmps14
  go_wp2_with fail
  refine (HF1.out _ (by exact blBy)).mono ?_
  rintro e w1 ⟨rfl, hb1⟩
  have HL : Hid (Below w.heap.size w w1) := hid (bl_then (by exact blBy) hb1)
  have BA : Blk w1 w.heap.size 24 #[.slice ta a.length tc] := ((Blk.new _ _ _).kept (below_alloc _)).kept hb1
  have BB : Blk w1 (w.heap.size + 1) 24 #[.slice tb b.length td] := (Blk.newAt (by simp)).kept hb1
  clear hb1
  have x1 := BA.cellF
  have z1 := BA.lt
  have x2 := BB.cellF
  have z2 := BB.lt
  go_wp2_with fail
  refine (HF2.out _ HL.out).mono ?_
  rintro e w2 ⟨rfl, hb2⟩
  replace HL := hid (below_trans HL.out hb2)
  replace BA := BA.kept hb2
  replace BB := BB.kept hb2
  clear hb2 x1 x2 z1 z2
  have x1 := BA.cellF
  have z1 := BA.lt
  have x2 := BB.cellF
  have z2 := BB.lt
  rcases HC1.out with ⟨h1, h2⟩ | ⟨i, hi, h1, h2⟩
  · have e1 : (findI a nm < 0) = True := eq_true h1
    generalize findI a nm = I at *
    generalize findI b nm = J at *
    replace HNO := hid (HNO.out (.inl h2))
    clear HC1 HC2 h1 h2 HYES
    go_wp2
    exact bodyPost_ret (v := .tuple #[.int .i64 0, .int .i64 0, .bool false]) (by simp [results, Tryz.results14, go_sem]) rfl ⟨HNO.out, by have := HL.out; first | exact this | exact bl_drewN this _ | exact blBy⟩
  · rcases HC2.out with ⟨h3, h4⟩ | ⟨k, hk, h3, h4⟩
    · have e1 : ((i : Int) < 0) = False := eq_false (by omega)
      have e2 : (findI b nm < 0) = True := eq_true h3
      rw [h1]
      generalize findI b nm = J at *
      replace HNO := hid (HNO.out (.inr h4))
      clear HC1 HC2 h1 h2 h3 h4 HYES
      go_wp2
      exact bodyPost_ret (v := .tuple #[.int .i64 0, .int .i64 0, .bool false]) (by simp [results, Tryz.results14, go_sem]) rfl ⟨HNO.out, by have := HL.out; first | exact this | exact bl_drewN this _ | exact blBy⟩
    · have e1 : ((i : Int) < 0) = False := eq_false (by omega)
      have e2 : ((k : Int) < 0) = False := eq_false (by omega)
      have q1 : (i : Int) < (a.length : Int) := by omega
      have q2 : (k : Int) < (b.length : Int) := by omega
      obtain ⟨b1, o1, rfl, hb1, -, c1, -⟩ := row6 (HA.out.row.kept HL.out) hi
      obtain ⟨b2, o2, rfl, hb2, -, d1, -⟩ := row6 (HB.out.row.kept HL.out) hk
      replace HYES := hid (HYES.out i k hi hk)
      rw [h1, h3]
      generalize a[i] = x at *
      generalize b[k] = y at *
      cases hx : x.t.enum with
      | true =>
        rw [hx] at c1 h2
        replace HNO := hid (HNO.out (.inl (by rw [h2]; rfl)))
        clear HC1 HC2 h1 h2 h3 h4 HYES
        go_wp2
        exact bodyPost_ret (v := .tuple #[.int .i64 0, .int .i64 0, .bool false]) (by simp [results, Tryz.results14, go_sem]) rfl ⟨HNO.out, by have := HL.out; first | exact this | exact bl_drewN this _ | exact blBy⟩
      | false =>
        rw [hx] at c1 h2
        cases hy : y.t.enum with
        | true =>
          rw [hy] at d1 h4
          replace HNO := hid (HNO.out (.inr (by rw [h4]; rfl)))
          clear HC1 HC2 h1 h2 h3 h4 HYES
          go_wp2
          exact bodyPost_ret (v := .tuple #[.int .i64 0, .int .i64 0, .bool false]) (by simp [results, Tryz.results14, go_sem]) rfl ⟨HNO.out, by have := HL.out; first | exact this | exact bl_drewN this _ | exact blBy⟩
        | false =>
          rw [hy] at d1 h4
          replace HYES := hid (HYES.out (by rw [h2]; rfl) (by rw [h4]; rfl))
          clear HC1 HC2 h1 h2 h3 h4 HNO
          go_wp2
          exact bodyPost_ret (v := .tuple #[.int .i64 i, .int .i64 k, .bool true]) (by simp [results, Tryz.results14, go_sem]) rfl ⟨HYES.out, by have := HL.out; first | exact this | exact bl_drewN this _ | exact blBy⟩
def mor1 : List CH := [⟨2, 6, [77], 4⟩]
theorem awake18 (w : World) (m : Int) (hm : w.cell? ⟨0, 0, none⟩ = some (.int .i64 m)) : Calls Tryz.prog 7 #[] w fun e w' => e = .returned (.bool true) ∧ Below w.heap.size w w' := by
  have HM := hid hm
  clear hm
  have HD : Hid (∀ (W : World) (h g : Nat) (fa ta tb : Option Addr) (fc : Nat), Below w.heap.size w W → TbR W (.slice ta 2 2) (simL h) → TbR W (.slice tb 2 2) (morL g fa fc) → Calls Tryz.prog 6 #[.agg #[.slice ta 2 2], .agg #[.slice tb 2 2]] W fun e w' => ∃ va vc, e = .returned (.tuple #[.slice va 1 vc, .int .i64 2, .int .i64 0]) ∧ RowS w' AnyZ 4 (.slice va mor1.length vc) mor1.length (mor1.flatMap cCH) ∧ Below W.heap.size W w') := hid fun W h g fa ta tb fc hW hA hB => by
    refine (diffT W (simL h) (morL g fa fc) ta tb 2 2 hA hB (simOk h) (morOk g fa fc) (fun x hx => by simp [simL] at hx; rcases hx with rfl | rfl <;> simp [simE, simM]) (fun x hx => by simp [morL] at hx; rcases hx with rfl | rfl <;> simp [simE]) m (cell_below HM.out hW)).mono ?_
    rintro e w' ⟨h1, h2, -⟩
    obtain ⟨va, vc, rfl, h3⟩ := h2 ⟨simGood h, morGood g fa fc⟩
    rw [simMore] at h3 ⊢
    exact ⟨va, vc, rfl, own_row h3 (fun _ _ => trivial), h1⟩
  have HS := hid (fun (W : World) (aa ba : Option Addr) (ac bc : Nat) (hA : RowS W AnyZ 4 (.slice aa mor1.length ac) mor1.length (mor1.flatMap cCH)) (hB : RowS W AnyZ 4 (.slice ba mor1.length bc) mor1.length (mor1.flatMap cCH)) => sameCT W mor1 mor1 aa ba ac bc hA hB (fun x hx => by simp [mor1] at hx; subst hx; exact ⟨by decide, by decide⟩) (fun x hx => by simp [mor1] at hx; subst hx; exact ⟨by decide, by decide⟩))
  go_enter Tryz.func7, Tryz.ntmps7
  go_wp2_with fail
  refine (simpleW _).mono ?_
  rintro e w1 ⟨rfl, ht1, hb1⟩
  have HT1 : Hid (TbR w1 (.slice (some ⟨w.heap.size + 1 + 1 + 1, 0, none⟩) 2 2) (simL w.heap.size)) := hid ht1
  have HB1 : Hid (Below w.heap.size w w1) := hid (bl_then (by exact blBy) hb1)
  clear ht1 hb1
  go_wp2_with fail
  refine (moreW _).mono ?_
  rintro e w2 ⟨h, fa, fc, ta, rfl, ht2, hb2⟩
  replace HT1 := hid (HT1.out.kept hb2)
  have HT2 := hid ht2
  replace HB1 := hid (below_trans HB1.out hb2)
  clear ht2 hb2
  go_wp2_with fail
  refine (HD.out _ _ _ _ _ _ _ HB1.out HT1.out HT2.out).mono ?_
  rintro e w3 ⟨va, vc, rfl, hr, hb3⟩
  have HR := hid hr
  have HB3 := hid (below_trans HB1.out hb3)
  clear hr hb3 HT1 HT2 HB1 HD
  go_wp2_with fail
  refine (HS.out _ _ _ _ _ (HR.out.kept (below_alloc _)) (rowOf (Blk.new _ _ _) 4 1 _ rfl rfl (by decide))).mono ?_
  rintro e w4 ⟨r, rfl, hr, hb4⟩
  have er : r = true := by simpa using hr
  subst er
  have HB4 : Hid (Below w.heap.size w w4) := hid (bl_then (by have := HB3.out; exact blBy) hb4)
  clear hb4
  go_wp2
  go_ret
  exact ⟨rfl, HB4.out⟩
theorem cutI_none : ∀ (l : List Int), (∀ c ∈ l, c ≠ 46) → cutI l = [l]
  | [], _ => rfl
  | c :: r, h => by
    rw [cutI, if_neg (h c (by simp)), cutI_none r (fun c hc => h c (by simp [hc]))]
    rfl
theorem cutI_at : ∀ (a b : List Int), (∀ c ∈ a, c ≠ 46) → cutI (a ++ 46 :: b) = a :: cutI b
  | [], b, _ => by simp [cutI]
  | c :: r, b, h => by
    rw [List.cons_append, cutI, if_neg (h c (by simp)), cutI_at r b (fun c hc => h c (by simp [hc]))]
    rfl
/-- While it is cut: P stands, from fr on there is no dot up to i. -/
structure Cut (xs : List Int) (P : List (List Int)) (fr i : Nat) : Prop where
  is : cutI xs = P ++ cutI (xs.drop fr)
  le : fr ≤ i
  no : ∀ c ∈ (xs.take i).drop fr, c ≠ 46
  few : P.length ≤ i
theorem Cut.start (xs : List Int) : Cut xs [] 0 0 := ⟨by simp, by omega, by simp, by simp⟩
theorem Cut.step {xs : List Int} {P : List (List Int)} {fr i : Nat} (h : Cut xs P fr i) (hi : i < xs.length) (hx : xs[i] ≠ 46) : Cut xs P fr (i + 1) := by
  refine ⟨h.is, by have := h.le; omega, fun c hc => ?_, by have := h.few; omega⟩
  rw [List.take_succ_eq_append_getElem hi, List.drop_append_of_le_length (by simp; have := h.le; omega)] at hc
  rcases List.mem_append.1 hc with q | q
  · exact h.no c q
  · simp at q; subst q; exact hx
theorem Cut.dot {xs : List Int} {P : List (List Int)} {fr i : Nat} (h : Cut xs P fr i) (hi : i < xs.length) (hx : xs[i] = 46) : Cut xs (P ++ [(xs.take i).drop fr]) (i + 1) (i + 1) := by
  refine ⟨?_, by omega, by simp, by have := h.few; simp; omega⟩
  have e : xs.drop fr = (xs.take i).drop fr ++ 46 :: xs.drop (i + 1) := by
    have e1 : xs = xs.take i ++ 46 :: xs.drop (i + 1) := by rw [← hx, List.getElem_cons_drop, List.take_append_drop]
    conv => lhs; rw [e1]
    rw [List.drop_append_of_le_length (by simp; have := h.le; omega)]
  rw [h.is, e, cutI_at _ _ h.no, List.append_assoc]
  rfl
theorem Cut.fin {xs : List Int} {P : List (List Int)} {fr : Nat} (h : Cut xs P fr xs.length) : P ++ [(xs.take xs.length).drop fr] = cutI xs := by
  rw [h.is, List.take_length, cutI_none]
  have := h.no
  rw [List.take_length] at this
  exact this
theorem partsR (xs : List Int) (w : World) (hb : ∀ c ∈ xs, 0 ≤ c ∧ c ≤ 255) (hl : xs.length < 4000000) : Calls Tryz.prog 43 #[.string (strOfNums xs)] w fun e w' => (∃ a c, e = .returned (.slice a (cutI xs).length c) ∧ Hid (RowS w' AnyZ 1 (.slice a (cutI xs).length c) (cutI xs).length ((cutI xs).flatMap cN))) ∧ Below w.heap.size w w' := by
  have HB := hid hb
  have HSZ : (strOfNums xs).size = xs.length := strOfNums_size xs
  have h63 : (xs.length : Int) ≤ 9223372036854775807 := by omega
  clear hb
  go_enter Tryz.func43, Tryz.ntmps43
  go_wp2
  go_loopw [3, 4, 5] (fun v f r wr => ∃ (i fr : Nat) (P : List (List Int)) (va : Option Addr) (vc : Nat), v = .slice va P.length vc ∧ f = .int .i64 fr ∧ r = .int .i64 i ∧ i ≤ xs.length + 1 ∧ Hid ((i ≤ xs.length ∧ Cut xs P fr i) ∨ (i = xs.length + 1 ∧ P = cutI xs)) ∧ Hid (wr.ownsRow w.heap.size 9 1 (.slice va P.length vc) P.length (P.flatMap cN)) ∧ Hid (Below w.heap.size w wr)) (fun _ _ r wr => xs.length + 1 - numAt wr r)
  case atStart => exact ⟨0, 0, [], none, 0, rfl, rfl, rfl, by omega, hid (.inl ⟨by omega, Cut.start xs⟩), hid (World.ownsRow_nil _ _ _ _), hid (Below.refl _ _)⟩
  case round =>
    obtain ⟨i, fr, P, va, vc, rfl, rfl, rfl, hi, HC, HV, hb⟩ := hrel
    rcases HC.out with ⟨hil, hc⟩ | ⟨he, hp⟩
    case inr =>
      subst hp
      have h2 : ¬ (i : Int) ≤ (xs.length : Int) := by omega
      have h3 : ((i : Int) ≤ (xs.length : Int)) = False := eq_false h2
      clear he HC
      go_wp2
      go_ret
      exact ⟨⟨va, vc, rfl, hid (own_row HV.out (fun _ _ => trivial))⟩, hb.out⟩
    have h2 : (i : Int) ≤ (xs.length : Int) := by omega
    have hfr : fr ≤ i := hc.le
    have hfew : P.length ≤ i := hc.few
    have hfr2 : (fr : Int) ≤ (i : Int) := by omega
    have HS : Hid ((strOfNums xs).extract fr i = strOfNums ((xs.take i).drop fr)) := hid (str_cut xs fr i)
    obtain ⟨la, lc, x1, HRUN, HV1, HG1⟩ := appendSt w.heap.size (.slice va P.length vc) P ((xs.take i).drop fr) wr HV.out hb.out.size (by omega)
    rw [← HS.out] at HRUN
    have hb1 : Hid (Below w.heap.size w x1) := hid (hb.out.trans (grow_bel HG1.out HV.out (Nat.le_refl _) hb.out.size))
    have HL : Hid ((P ++ [(xs.take i).drop fr]).length = P.length + 1) := hid (by simp)
    have HC1 := hid hc
    clear hc HC HG1 HS
    by_cases hlt : i < xs.length
    case neg =>
      have ei : i = xs.length := by omega
      have k1 : ((i : Int) == (xs.length : Int)) = true := by simp [ei]
      have HE : Hid (P ++ [(xs.take i).drop fr] = cutI xs) := hid (by subst ei; exact HC1.out.fin)
      have hi2 : i + 1 = xs.length + 1 := by omega
      replace hi2 := hid hi2
      clear hlt ei
      go_wp2_with (first | (at_builtin; refine wpList_append_ran rfl _ _ 46 46 rfl rfl _ _ (.slice la (P.length + 1) lc) x1 rfl rfl HRUN.out ?_))
      exact ⟨⟨i + 1, i + 1, P ++ [(xs.take i).drop fr], la, lc, by rw [HL.out], by simp, by simp, by omega, hid (.inr ⟨hi2.out, HE.out⟩), hid (by have := HV1.out; rw [← HL.out] at this; exact this), hb1⟩, by simp [numAt]; omega⟩
    have hlt2 : (i : Int) < (xs.length : Int) := by omega
    have k1 : ((i : Int) == (xs.length : Int)) = false := by rw [beq_eq_false_iff_ne]; omega
    have hix := index_str HB.out i hlt .i64
    have e1 : xs[i]?.getD 0 = xs[i] := by simp [hlt]
    rw [e1] at hix
    by_cases hd : xs[i] = 46
    · have HN := hid (HC1.out.dot hlt hd)
      rw [hd] at hix
      clear e1 hd
      go_wp2_with (first | (at_builtin; refine wpList_append_ran rfl _ _ 46 46 rfl rfl _ _ (.slice la (P.length + 1) lc) x1 rfl rfl HRUN.out ?_))
      exact ⟨⟨i + 1, i + 1, P ++ [(xs.take i).drop fr], la, lc, by rw [HL.out], by simp, by simp, by omega, hid (.inl ⟨by omega, HN.out⟩), hid (by have := HV1.out; rw [← HL.out] at this; exact this), hb1⟩, by simp [numAt]; omega⟩
    · have HN := hid (HC1.out.step hlt hd)
      have k2 : (xs[i] == 46) = false := by simpa using hd
      clear e1 hd HRUN
      generalize xs[i] = d at hix k2
      go_wp2
      exact ⟨⟨i + 1, fr, P, va, vc, rfl, rfl, by simp, by omega, hid (.inl ⟨by omega, HN.out⟩), HV, hb⟩, by simp [numAt]; omega⟩
end Go.Proofs.YtmfaakimhgkedaaGreatDoor
