/-
  The walk through a message and all messages within it, by types.
  The type of the messages in a field.
  A good table's message.
  Whether fields rise.
  The shape of a field.
  Of each oneof one member.
-/
import Derived.Test.YtnfdlnelfnigdaaGreatDoorCAB
import Derived.Test.YtnfdlnelfnigdaaGreatDoorCAH
import Derived.Test.YtnfdlnelfnigdaaGreatDoorCTY0
namespace Go.Proofs.YtnfdlnelfnigdaaGreatDoor
open Go.RowKit Go.Shelf
set_option maxRecDepth 1000000
attribute [local go_sem] Oper.semAt_some
set_option linter.unusedVariables false
set_option linter.unusedSimpArgs false
set_option maxHeartbeats 2000000
/-- What the walk answers. -/
def walkB (hold : TV → CM → Bool) (blw : TV → CF CM → TV) : Nat → TV → CM → Bool
  | 0, _, _ => true
  | d + 1, x, m => hold x m && m.fs.all (fun f => (allM f).all (walkB hold blw d (blw x f)))
/-- A type's four lists, as slices. -/
def ShT (x : TV) : Prop := ∃ a1 c1 a2 c2 a3 c3 a4 c4, x.f = .slice a1 x.t.fs.length c1 ∧ x.o = .slice a2 x.t.os.length c2 ∧ x.s = .slice a3 x.t.ss.length c3 ∧ x.r = .slice a4 x.t.rs.length c4
/-- What the walk is handed: two functions, and what they answer. -/
structure WkH (Z : Nat → Prop) (Ok : World → Prop) (In : TV → Prop) (Q : Nat → TV → CM → Prop) (hold : TV → CM → Bool) (blw : TV → CF CM → TV) (fh fb : FuncId) (ch cb : Array Value) : Prop where
  kept : ∀ {W W' : World}, Ok W → Below W.heap.size W W' → Ok W'
  sh : ∀ x, In x → ShT x
  eh : ∀ (args : Array Value) (W : World), (callFunc fh args).run Tryz.prog W = .ok (.enter fh args) W
  eb : ∀ (args : Array Value) (W : World), (callFunc fb args).run Tryz.prog W = .ok (.enter fb args) W
  h : ∀ (W : World) (x : TV) (d : Nat) (cs : List Value) (m : CM), Ok W → In x → Q d x m → MsgE W Z d cs m → Calls Tryz.prog fh (ch ++ #[.agg (cTV x).toArray, .agg cs.toArray]) W fun e w' => e = .returned (.bool (hold x m)) ∧ Below W.heap.size W w'
  b : ∀ (W : World) (x : TV) (d : Nat) (cs : List Value) (m : CM) (f : CF CM), Ok W → In x → Q (d + 1) x m → hold x m = true → f ∈ m.fs → FldE W Z (MsgE W Z d) cs f → Calls Tryz.prog fb (cb ++ #[.agg (cTV x).toArray, .agg cs.toArray]) W fun e w' => e = .returned (.agg (cTV (blw x f)).toArray) ∧ Below W.heap.size W w'
  i : ∀ (x : TV) (d : Nat) (m : CM) (f : CF CM), In x → Q (d + 1) x m → hold x m = true → f ∈ m.fs → In (blw x f)
  q : ∀ (x : TV) (d : Nat) (m : CM) (f : CF CM) (z : CM), In x → Q (d + 1) x m → hold x m = true → f ∈ m.fs → z ∈ allM f → Q d (blw x f) z
def WkAt (Z : Nat → Prop) (Ok : World → Prop) (In : TV → Prop) (Q : Nat → TV → CM → Prop) (hold : TV → CM → Bool) (blw : TV → CF CM → TV) (fh fb : FuncId) (ch cb : Array Value) (d : Nat) : Prop := ∀ (w : World) (x : TV) (cs : List Value) (m : CM), Ok w → In x → Q d x m → MsgE w Z d cs m → Calls Tryz.prog 37 #[.agg (cTV x).toArray, .agg cs.toArray, .func (.func fh) ch #[], .func (.func fb) cb #[]] w fun e w' => e = .returned (.bool (walkB hold blw d x m)) ∧ Below w.heap.size w w'
/-- What a range over a function leaves to be collected. -/
def mkD (D : Nat) : Deferred := { target := .collected D, args := #[] }
def Coll (W : World) (base : Nat) (Ds : List Nat) : Prop := Ds.Nodup ∧ ∀ D ∈ Ds, base ≤ D ∧ W.heap[D]? = some (.deferred (some []))
theorem Coll.nil (W : World) (base : Nat) : Coll W base [] := ⟨List.nodup_nil, fun D h => by cases h⟩
theorem Coll.lt {W : World} {base : Nat} {Ds : List Nat} (h : Coll W base Ds) {D : Nat} (hD : D ∈ Ds) : D < W.heap.size := (Array.getElem?_eq_some_iff.1 (h.2 D hD).2).1
theorem Coll.cons {W : World} {base : Nat} {Ds : List Nat} {D : Nat} (h : Coll W base Ds) (hb : base ≤ D) (hn : D ∉ Ds) (hD : W.heap[D]? = some (.deferred (some []))) : Coll W base (D :: Ds) :=
  ⟨List.nodup_cons.2 ⟨hn, h.1⟩, fun E hE => by rcases List.mem_cons.1 hE with rfl | hE; exact ⟨hb, hD⟩; exact h.2 E hE⟩
theorem Coll.keep {W W' : World} {base : Nat} {Ds : List Nat} (h : Coll W base Ds) (hk : ∀ D ∈ Ds, W'.heap[D]? = W.heap[D]?) : Coll W' base Ds := ⟨h.1, fun D hD => ⟨(h.2 D hD).1, (hk D hD).trans (h.2 D hD).2⟩⟩
theorem Coll.kept {W W' : World} {base : Nat} {Ds : List Nat} (h : Coll W base Ds) (hb : Below W.heap.size W W') : Coll W' base Ds := h.keep (fun D hD => hb.block D (h.lt hD))
/-- The same but for blocks from base on. -/
theorem putObj_below {W : World} {base D : Nat} (hb : base ≤ D) (hs : base ≤ W.heap.size) (o : Obj) : Below base W (W.putObj D o) := ⟨rfl, rfl, rfl, by simp [World.putObj], fun k hk => by simp [World.putObj, Array.getElem?_setIfInBounds]; omega⟩
theorem putObj_other {W : World} {k D : Nat} (h : k ≠ D) (o : Obj) : (W.putObj D o).heap[k]? = W.heap[k]? := by simp [World.putObj, Array.getElem?_setIfInBounds]; omega
theorem leave_all {fn : Func} {tmps : Array Value} {R : Ending → World → Prop} {base : Nat} (n : Nat) : ∀ (Ds : List Nat) (W : World), Coll W base Ds → base ≤ W.heap.size → (∀ W', Below base W W' → ∃ v, (results fn tmps).run Tryz.prog W' = .ok v W' ∧ R (.returned v) W') → LeavesInM Fence.wide n Tryz.prog fn tmps R (Ds.map mkD) .returning W
  | [], W, _, _, h => h W (Below.refl _ _)
  | D :: Ds, W, hc, hs, h => by
    have hD := hc.2 D List.mem_cons_self
    have hn := List.nodup_cons.1 hc.1
    refine ⟨by simp, .inl ⟨D, _, rfl, run_takeDeferred hD.2, ?_⟩⟩
    have hb := putObj_below (W := W) hD.1 hs (.deferred none)
    exact leave_all n Ds _ ⟨hn.2, fun E hE => ⟨(hc.2 E (List.mem_cons_of_mem _ hE)).1, (putObj_other (fun e => hn.1 (by rw [← e]; exact hE)) _).trans (hc.2 E (List.mem_cons_of_mem _ hE)).2⟩⟩ (Nat.le_trans hs hb.size) (fun W' hW' => h W' (hb.trans hW'))
theorem blk_own {W W' : World} {p : Nat} {t : TypeId} {cs : Array Value} {row : Option Nat} (h : Blk W p t cs) (hg : W.grownBy W' row) (hr : ∀ r, row = some r → ∃ o : Obj, W.heap[r]? = some o ∧ o.isCells = false) : Blk W' p t cs :=
  (hg.block p h.lt (fun e => by
    obtain ⟨o, ho, hc⟩ := hr p e.symm
    rw [show W.heap[p]? = _ from h] at ho
    cases ho
    cases hc)).trans h
theorem own_keep8 {β : Type} {w3 : World} {p : Nat} {t : TypeId} {cs : Array Value} (hp : p < w3.heap.size) : OwnFrom w3.heap.size (fun (_ : β) W => Keep (· ≠ p) w3 W ∧ Blk W p t cs) := fun s A B row hs hg hr =>
  ⟨⟨hg.os.trans hs.1.os, hg.tape.trans hs.1.tape, hg.output.trans hs.1.output, Nat.le_trans hs.1.size hg.size, fun k hk hf => (hg.block k (Nat.lt_of_lt_of_le hk hs.1.size) (fun e => by have := (hr k e.symm).1; omega)).trans (hs.1.block k hk hf)⟩, blk_own hs.2 hg (fun r e => (hr r e).2)⟩
theorem cfIter (args : Array Value) (W : World) : (callFunc 107 args).run Tryz.prog W = .ok (.enter 107 args) W := cf_enter Tryz.func107 (by kernel_rfl) (by kernel_rfl) args W
theorem msgsOfT (W : World) (f : CF CM) (a1 a2 : Option Addr) (c1 c2 : Nat) : Calls Tryz.prog 75 #[.agg #[.int .i64 f.num, .slice a1 f.ks.length c1, .slice a2 f.vs.length c2]] W fun e w' => e = .returned (.func (.func 107) #[] #[.pointer (some ⟨W.heap.size, 0, none⟩)]) ∧ w' = W.alloc (.cells #[.int .i64 f.num, .slice a1 f.ks.length c1, .slice a2 f.vs.length c2] 29) := by
  go_enter Tryz.func75, Tryz.ntmps75
  go_wp2
  go_ret
  exact ⟨rfl, rfl⟩
theorem walkT {Z : Nat → Prop} {Ok : World → Prop} {In : TV → Prop} {Q : Nat → TV → CM → Prop} {hold : TV → CM → Bool} {blw : TV → CF CM → TV} {fh fb : FuncId} {ch cb : Array Value} (H : WkH Z Ok In Q hold blw fh fb ch cb) : ∀ d, WkAt Z Ok In Q hold blw fh fb ch cb d
  | 0 => fun _ _ _ _ _ _ _ h => h.elim
  | d + 1 => fun w x cs m hok hin hQ h => by
    have IH := hid (walkT H d)
    obtain ⟨ka, kc, va, vc, rfl, g, q, l1, -⟩ := msg_open h
    obtain ⟨ta1, tc1, ta2, tc2, ta3, tc3, ta4, tc4, e1, e2, e3, e4⟩ := H.sh x hin
    have ec : cTV x = [.string (strOfNums x.t.name), .bool x.t.enum, .slice ta1 x.t.fs.length tc1, .slice ta2 x.t.os.length tc2, .slice ta3 x.t.ss.length tc3, .slice ta4 x.t.rs.length tc4] := by unfold cTV; rw [e1, e2, e3, e4]
    have HH := hid (fun W (hW : Below w.heap.size w W) => H.h W x (d + 1) _ m (H.kept hok hW) hin hQ (h.kept hW))
    have HBL := hid (fun (W : World) (cs : List Value) (f : CF CM) (hm : hold x m = true) (hf : f ∈ m.fs) (hW : Below w.heap.size w W) hx => H.b W x d cs m f (H.kept hok hW) hin hQ hm hf hx)
    have hcf1 := H.eh
    have hcf2 := H.eb
    have G := hid g
    have m1 : (m.fs.length : Int) ≤ 9223372036854775807 := by omega
    have HX : Hid (walkB hold blw (d + 1) x m = (hold x m && m.fs.all (fun f => (allM f).all (walkB hold blw d (blw x f))))) := hid rfl
    rw [ec] at HH HBL ⊢
    generalize walkB hold blw (d + 1) x m = res at *
    clear h g q e1 e2 e3 e4
    refine callsIn_wide (n := 3) |>.1 ?_
    refine callsIn_of_wp_marks Tryz.func37 rfl trivial ?_ rfl
    simp only [Tryz.ntmps37, List.size_toArray, List.length_cons, List.length_nil, Nat.reduceAdd, Nat.reduceSub, Array.replicate_succ, Array.replicate_zero, List.push_toArray, List.append_toArray, List.nil_append, List.cons_append]
    gi_wp2_with fail
    refine ⟨trivial, (callsIn_wide.2 (HH.out _ (by exact blBy))).mono ?_⟩
    rintro e w1 ⟨rfl, hbx⟩
    have B4 : Blk w1 w.heap.size 66 #[.string (strOfNums x.t.name), .bool x.t.enum, .slice ta1 x.t.fs.length tc1, .slice ta2 x.t.os.length tc2, .slice ta3 x.t.ss.length tc3, .slice ta4 x.t.rs.length tc4] := (((((Blk.new _ _ _).kept (below_alloc _)).kept (below_alloc _)).kept (below_alloc _)).kept (below_alloc _)).kept hbx
    have B5 : Blk w1 (w.heap.size + 1) 35 #[.slice ka m.fs.length kc, .slice va m.us.length vc] := ((((Blk.newAt (by simp)).kept (below_alloc _)).kept (below_alloc _)).kept (below_alloc _)).kept hbx
    have B6 : Blk w1 (w.heap.size + 1 + 1) 83 #[.func (.func fh) ch #[]] := (((Blk.newAt (by simp)).kept (below_alloc _)).kept (below_alloc _)).kept hbx
    have B7 : Blk w1 (w.heap.size + 1 + 1 + 1) 73 #[.func (.func fb) cb #[]] := ((Blk.newAt (by simp)).kept (below_alloc _)).kept hbx
    have B8 : Blk w1 (w.heap.size + 1 + 1 + 1 + 1) 4 #[.bool false] := (Blk.newAt (by simp)).kept hbx
    have hbz : Hid (Below w.heap.size w w1) := hid (bl_then (by exact blBy) hbx)
    have hs1 : w.heap.size + 5 ≤ w1.heap.size := by have := hbx.size; simpa using this
    clear hbx HH
    have x8 := B8.cellF
    have y8 := B8.frz
    have z8 := B8.lt
    have HIN := hid (fun f => H.i x d m f hin hQ)
    have HQS := hid (fun f z => H.q x d m f z hin hQ)
    cases hq : hold x m with
    | false =>
      rw [hq, Bool.false_and] at HX
      gi_wp2
      exact ⟨.bool false, by simp [results, Tryz.results37, go_sem, x8, y8, z8], by rw [HX.out], by have := hbz.out; exact blBy⟩
    | true =>
      rw [hq, Bool.true_and] at HX
      have x5 := B5.cellF
      have z5 := B5.lt
      gi_wp2
      refine wpIn_loop (fun a W => ∃ (j : Nat) (Ds : List Nat) (u10 u11 u12 u22 u23 u24 u25 u26 u27 u28 u29 u30 u31 u32 u33 u34 u35 u36 u37 u38 : Value), a = { tmps := #[.agg #[.string (strOfNums x.t.name), .bool x.t.enum, .slice ta1 x.t.fs.length tc1, .slice ta2 x.t.os.length tc2, .slice ta3 x.t.ss.length tc3, .slice ta4 x.t.rs.length tc4], .agg #[.slice ka m.fs.length kc, .slice va m.us.length vc], .func (.func fh) ch #[], .func (.func fb) cb #[], .pointer (some ⟨w.heap.size, 0, none⟩), .pointer (some ⟨w.heap.size + 1, 0, none⟩), .pointer (some ⟨w.heap.size + 1 + 1, 0, none⟩), .pointer (some ⟨w.heap.size + 1 + 1 + 1, 0, none⟩), .pointer (some ⟨w.heap.size + 1 + 1 + 1 + 1, 0, none⟩), undef, u10, u11, u12, .func (.func fh) ch #[], .agg #[.string (strOfNums x.t.name), .bool x.t.enum, .slice ta1 x.t.fs.length tc1, .slice ta2 x.t.os.length tc2, .slice ta3 x.t.ss.length tc3, .slice ta4 x.t.rs.length tc4], .agg #[.slice ka m.fs.length kc, .slice va m.us.length vc], .bool true, .bool false, .pointer (some ⟨w.heap.size + 1, 0, none⟩), .slice ka m.fs.length kc, .int .i64 (m.fs.length : Int), .int .i64 (j : Int), u22, u23, u24, u25, u26, u27, u28, u29, u30, u31, u32, u33, u34, u35, u36, u37, u38], defers := Ds.map mkD } ∧ j ≤ m.fs.length ∧ Hid (res = (m.fs.drop j).all (fun f => (allM f).all (walkB hold blw d (blw x f)))) ∧ Hid (Coll W w1.heap.size Ds) ∧ Hid (Below w1.heap.size w1 W)) (fun a _ => m.fs.length - (intOf (a.tmps.getD 21 undef)).toNat) ⟨0, [], undef, undef, undef, undef, undef, undef, undef, undef, undef, undef, undef, undef, undef, undef, undef, undef, undef, undef, undef, undef, rfl, by omega, HX, hid (Coll.nil _ _), hid (Below.refl _ _)⟩ ?_
      rintro a W ⟨j, Ds, u10, u11, u12, u22, u23, u24, u25, u26, u27, u28, u29, u30, u31, u32, u33, u34, u35, u36, u37, u38, rfl, hj, HA, HC, hb⟩
      have B4' := B4.kept hb.out
      have B6' := B6.kept hb.out
      have B7' := B7.kept hb.out
      have B8' := B8.kept hb.out
      have x4 := B4'.cellF
      have z4 := B4'.lt
      have x6 := B6'.cellF
      have z6 := B6'.lt
      have x7 := B7'.cellF
      have z7 := B7'.lt
      clear x5 z5 x8 y8 z8
      by_cases hlt : j < m.fs.length
      · have k2 : (j : Int) < (m.fs.length : Int) := by omega
        obtain ⟨b1, o1, pa, pc, qa, qc, rfl, -, hb1, c0, c1, c2, he⟩ := fls_at (G.out.kept (below_trans hbz.out hb.out)) hlt
        have HD : Hid ((m.fs.drop j).all (fun f => (allM f).all (walkB hold blw d (blw x f))) = ((allM m.fs[j]).all (walkB hold blw d (blw x m.fs[j])) && (m.fs.drop (j + 1)).all (fun f => (allM f).all (walkB hold blw d (blw x f))))) := hid (by rw [List.drop_eq_getElem_cons hlt, List.all_cons])
        have HME := List.getElem_mem hlt
        have HIF := hid (HIN.out _ hq HME)
        have HQF := hid (fun z => HQS.out _ z hq HME)
        have HBF := hid (fun W' (hW' : Below w.heap.size w W') => HBL.out W' [.int .i64 m.fs[j].num, .slice pa m.fs[j].ks.length pc, .slice qa m.fs[j].vs.length qc] m.fs[j] hq HME hW')
        have HFE := hid he
        clear HME he
        generalize m.fs[j] = f at *
        generalize blw x f = y at *
        obtain ⟨sa1, sc1, sa2, sc2, sa3, sc3, sa4, sc4, e1, e2, e3, e4⟩ := H.sh y HIF.out
        have ecy : cTV y = [.string (strOfNums y.t.name), .bool y.t.enum, .slice sa1 y.t.fs.length sc1, .slice sa2 y.t.os.length sc2, .slice sa3 y.t.ss.length sc3, .slice sa4 y.t.rs.length sc4] := by unfold cTV; rw [e1, e2, e3, e4]
        rw [ecy] at HBF
        clear e1 e2 e3 e4
        have hbw : Hid (Below w.heap.size w W) := hid (below_trans hbz.out hb.out)
        gi_wp2_with fail
        refine ⟨trivial, (callsIn_wide.2 (HBF.out _ (by have := hbw.out; exact blBy) (HFE.out.kept (by exact blBy)))).mono ?_⟩
        rintro e w2 ⟨rfl, hbx⟩
        have B10 : Blk w2 W.heap.size 29 #[.int .i64 f.num, .slice pa f.ks.length pc, .slice qa f.vs.length qc] := (Blk.new _ _ _).kept hbx
        have hb2 : Hid (Below W.heap.size W w2) := hid (below_trans (below_alloc _) hbx)
        clear hbx HBF
        have x10 := B10.cellF
        have z10 := B10.lt
        gi_wp2_with fail
        refine ⟨trivial, (callsIn_wide.2 (msgsOfT _ f pa qa pc qc)).mono ?_⟩
        rintro e w3 ⟨rfl, hw3⟩
        have B11 : Blk w3 w2.heap.size 66 #[.string (strOfNums y.t.name), .bool y.t.enum, .slice sa1 y.t.fs.length sc1, .slice sa2 y.t.os.length sc2, .slice sa3 y.t.ss.length sc3, .slice sa4 y.t.rs.length sc4] := by rw [hw3]; exact (Blk.new _ _ _).kept (below_alloc _)
        have Bq : Blk w3 (w2.heap.size + 1) 29 #[.int .i64 f.num, .slice pa f.ks.length pc, .slice qa f.vs.length qc] := by rw [hw3]; exact Blk.newAt (by simp)
        have hb3 : Hid (Below W.heap.size W w3) := hid (by rw [hw3]; have := hb2.out; exact blBy)
        have hsq : w2.heap.size + 2 ≤ w3.heap.size := by rw [hw3]; simp
        have esq : (w2.alloc (.cells #[.string (strOfNums y.t.name), .bool y.t.enum, .slice sa1 y.t.fs.length sc1, .slice sa2 y.t.os.length sc2, .slice sa3 y.t.ss.length sc3, .slice sa4 y.t.rs.length sc4] 66)).heap.size = w2.heap.size + 1 := by simp
        rw [esq]
        clear hw3 esq x10 z10 B10 c0 c1 c2 hb1 x4 z4 x6 z6 x7 z7
        obtain ⟨_, _, _, _, ef, g1, g2, -⟩ := fld_open (HFE.out.kept hb3.out)
        simp only [List.cons.injEq, Value.slice.injEq, true_and, and_true] at ef
        obtain ⟨⟨rfl, rfl⟩, rfl, rfl⟩ := ef
        have B6q := B6'.kept hb3.out
        have B7q := B7'.kept hb3.out
        have B8q := B8'.kept hb3.out
        have hbq : Hid (Below w.heap.size w w3) := hid (below_trans hbw.out hb3.out)
        have hbq1 : Hid (Below w1.heap.size w1 w3) := hid (below_trans hb.out hb3.out)
        have HCq := hid (HC.out.kept hb3.out)
        have hs2 : W.heap.size ≤ w2.heap.size := hb2.out.size
        have hsW := hb.out.size
        clear B4' B6' B7' B8' hb2 HFE
        gi_wp2_with fail
        refine wpIn_rangeFunc_ownH rfl (by omega) (gf := 107) (lb := #[.pointer (some ⟨w2.heap.size + 1, 0, none⟩)]) rfl trivial cfIter (msgsOf_in w3 Z d (3 - 1) (by omega) (w2.heap.size + 1) f pa qa pc qc Bq g1 g2) belowK_t (belowK_b (Nat.le_refl _)) (Below.refl _ _) (fun _ => rfl)
          (fun pre W' => (∀ z ∈ pre, walkB hold blw d y z.1.2 = true) ∧ Below w3.heap.size w3 W')
          (fun c pre W' => (c = .ret ∧ ∃ z ∈ pre, walkB hold blw d y z.1.2 = false) ∧ (Keep (· ≠ w.heap.size + 1 + 1 + 1 + 1) w3 W' ∧ Blk W' (w.heap.size + 1 + 1 + 1 + 1) 4 #[.bool false]))
          (OwnFrom.and (ownFrom_pure _ _) (ownFrom_below (Nat.le_refl _) (Nat.le_refl _)))
          (fun c => OwnFrom.and (ownFrom_pure _ _) (own_keep8 (by omega)))
          ⟨(fun z hz => by cases hz), Below.refl _ _⟩
          (fun z a' W' => ∃ Bx, w3.heap.size ≤ Bx ∧ Blk W' Bx 35 z.1.1.toArray ∧ a' = { tmps := #[.agg #[.string (strOfNums x.t.name), .bool x.t.enum, .slice ta1 x.t.fs.length tc1, .slice ta2 x.t.os.length tc2, .slice ta3 x.t.ss.length tc3, .slice ta4 x.t.rs.length tc4], .agg #[.slice (some ⟨b1, o1, none⟩) m.fs.length kc, .slice va m.us.length vc], .func (.func fh) ch #[], .func (.func fb) cb #[], .pointer (some ⟨w.heap.size, 0, none⟩), .pointer (some ⟨w.heap.size + 1, 0, none⟩), .pointer (some ⟨w.heap.size + 1 + 1, 0, none⟩), .pointer (some ⟨w.heap.size + 1 + 1 + 1, 0, none⟩), .pointer (some ⟨w.heap.size + 1 + 1 + 1 + 1, 0, none⟩), undef, .pointer (some ⟨W.heap.size, 0, none⟩), .pointer (some ⟨w2.heap.size, 0, none⟩), .pointer (some ⟨Bx, 0, none⟩), .func (.func fh) ch #[], .agg #[.string (strOfNums x.t.name), .bool x.t.enum, .slice ta1 x.t.fs.length tc1, .slice ta2 x.t.os.length tc2, .slice ta3 x.t.ss.length tc3, .slice ta4 x.t.rs.length tc4], .agg #[.slice (some ⟨b1, o1, none⟩) m.fs.length kc, .slice va m.us.length vc], .bool true, .bool false, .pointer (some ⟨w.heap.size + 1, 0, none⟩), .slice (some ⟨b1, o1, none⟩) m.fs.length kc, .int .i64 (m.fs.length : Int), .int .i64 (j : Int), .bool true, .pointer (some ⟨b1, o1 + j * 3, none⟩), .agg #[.int .i64 f.num, .slice pa f.ks.length pc, .slice qa f.vs.length qc], .func (.func fb) cb #[], .agg #[.string (strOfNums x.t.name), .bool x.t.enum, .slice ta1 x.t.fs.length tc1, .slice ta2 x.t.os.length tc2, .slice ta3 x.t.ss.length tc3, .slice ta4 x.t.rs.length tc4], .agg #[.int .i64 f.num, .slice pa f.ks.length pc, .slice qa f.vs.length qc], .agg #[.string (strOfNums y.t.name), .bool y.t.enum, .slice sa1 y.t.fs.length sc1, .slice sa2 y.t.os.length sc2, .slice sa3 y.t.ss.length sc3, .slice sa4 y.t.rs.length sc4], .agg #[.int .i64 f.num, .slice pa f.ks.length pc, .slice qa f.vs.length qc], .func (.func 107) #[] #[.pointer (some ⟨w2.heap.size + 1, 0, none⟩)], .agg z.1.1.toArray, u32, u33, u34, u35, u36, u37, u38], defers := [] })
          (fun z a' _ X Y row hs hg hr => by obtain ⟨Bx, h1, h2, h3⟩ := hs; exact ⟨Bx, h1, blk_own h2 hg (fun r e => (hr r e).2), h3⟩)
          ?assign ?body ?done ?stop
        case assign =>
          rintro l pre z W' K ⟨hall, hB1⟩ hK
          obtain ⟨⟨zc, zm⟩, hz⟩ := z
          have hz' : MsgE w3 Z d zc zm := hz.1
          obtain ⟨fa, fc, ua, uc, e0, -⟩ := msg_openD hz'
          subst e0
          dsimp only [encM] at hK ⊢
          gi_wp2
          exact hK _ _ ((KeepsOthers.alloc _ _).from _) ((Below.refl _ W').alloc hB1.size _) ⟨hall, hB1.alloc hB1.size _⟩ ⟨W'.heap.size, hB1.size, Blk.new _ _ _, rfl⟩
        case body =>
          rintro l pre z a' W' hl ⟨r, hr⟩ ⟨hall, hB1⟩ ⟨Bx, hBx, bX, rfl⟩ hlt2
          obtain ⟨⟨zc, zm⟩, hz⟩ := z
          have hz' : MsgE w3 Z d zc zm := hz.1
          have HZ := hid hz'
          have HQZ := hid (HQF.out zm hz.2)
          obtain ⟨fa, fc, ua, uc, e0, -⟩ := msg_openD hz'
          subst e0
          dsimp only at bX
          have C6 := B6q.kept hB1
          have C7 := B7q.kept hB1
          have C8 := B8q.kept hB1
          have C11 := B11.kept hB1
          have x6 := C6.cellF
          have z6 := C6.lt
          have x7 := C7.cellF
          have z7 := C7.lt
          have x11 := C11.cellF
          have z11 := C11.lt
          have xX := bX.cellF
          have zX := bX.lt
          have HIW := hid (IH.out W' y [.slice fa zm.fs.length fc, .slice ua zm.us.length uc] zm (H.kept hok (below_trans hbq.out hB1)) HIF.out HQZ.out (HZ.out.kept hB1))
          rw [ecy] at HIW
          have HB1 := hid hB1
          have HALL := hid hall
          clear hB1 hall hlt2
          gi_wp2_with fail
          refine ⟨trivial, (CallsIn.inRound l (callsIn_wide.2 HIW.out)).mono ?_⟩
          rintro e W4 ⟨rfl, hb4⟩
          have HB4 := hid hb4
          have D8 := C8.kept hb4
          have x8 := D8.cellF
          have y8 := D8.frz
          have z8 := D8.lt
          have HKF : Hid (KeepsFrom w3.heap.size W' W4) := hid ⟨hb4.size, fun k o _ hk _ => (hb4.block k (Array.getElem?_eq_some_iff.1 hk).1).trans hk⟩
          have hsB := HB1.out.size
          clear hb4 HIW x6 z6 x7 z7 x11 z11 xX zX
          cases hr2 : walkB hold blw d y zm with
          | true =>
            have HR2 := hid hr2
            gi_wp2
            refine ⟨HKF.out, HB4.out.mono hsB, ?_, HB1.out.trans (HB4.out.mono hsB)⟩
            intro z' hz2
            rcases List.mem_append.1 hz2 with h | h
            · exact HALL.out z' h
            · rw [List.mem_singleton.1 h]; exact HR2.out
          | false =>
            have HR2 := hid hr2
            gi_wp2
            refine ⟨HKF.out.trans ((KeepsOthers.setCell _ _ _).from _), ⟨rfl, _, List.mem_append_right _ (List.mem_singleton.2 rfl), HR2.out⟩, ?_, (D8.set 0 (.bool false)).is rfl⟩
            exact ((Keep.ofBelow HB1.out).trans (Keep.ofBelow HB4.out)).trans (Keep.setCell _ _ _ (by simp))
        case done =>
          rintro D xs W' hD hS ⟨hall, hB1⟩ hK
          have HB1 := hid hB1
          have HK := hid hK
          have HR : Hid (res = (m.fs.drop (j + 1)).all (fun f => (allM f).all (walkB hold blw d (blw x f)))) := hid (by
            rw [HA.out, HD.out, ← hS]
            rw [show ((xs.map fun z => z.1.2).all (walkB hold blw d y)) = true from by
              rw [List.all_map, List.all_eq_true]
              exact fun z hz => hall z hz]
            rfl)
          have hsw := hB1.size
          have HCd : Hid (Coll W' w1.heap.size (D :: Ds)) := hid ((HCq.out.kept hB1).cons (by omega) (fun h => by have := HCq.out.lt h; omega) hK)
          have hbd : Hid (Below w1.heap.size w1 W') := hid (hbq1.out.trans (hB1.mono hbq1.out.size))
          clear hB1 hall hS hK
          gi_wp2
          exact ⟨⟨j + 1, D :: Ds, _, _, _, _, _, _, _, _, _, _, _, _, _, _, _, _, _, _, _, _, rfl, by omega, HR, HCd, hbd⟩, by simp [intOf]; omega⟩
        case stop =>
          rintro D c pre W' hD hSp ⟨⟨rfl, hex⟩, hKp, hB8⟩ hK
          have HKP := hid hKp
          have HB8 := hid hB8
          have HK := hid hK
          have HR : Hid (res = false) := hid (by
            rw [HA.out, HD.out]
            rw [show ((allM f).all (walkB hold blw d y)) = false from by
              rw [List.all_eq_false]
              obtain ⟨z, hz, hw⟩ := hex
              exact ⟨z.1.2, hSp.subset (List.mem_map.2 ⟨z, hz, rfl⟩), by rw [hw]; simp⟩]
            rfl)
          have hsw := hKp.size
          have HCs : Hid (Coll W' w1.heap.size (D :: Ds)) := hid ((HCq.out.keep (fun E hE => hKp.block E (HCq.out.lt hE) (by have := (HCq.out.2 E hE).1; omega))).cons (by omega) (fun h => by have := HCq.out.lt h; omega) hK)
          have hbs : Hid (Below w.heap.size w W') := hid (hbq.out.trans (hKp.below hbq.out.size (fun k hk => by omega)))
          clear hex hKp hB8 hK
          gi_wp2
          refine leave_all (base := w1.heap.size) 3 (D :: Ds) _ HCs.out (by omega) (fun W'' hW'' => ?_)
          have B9 : Blk W'' (w.heap.size + 1 + 1 + 1 + 1) 4 #[.bool false] := (hW''.block _ (by omega)).trans HB8.out
          have x9 := B9.cellF
          have y9 := B9.frz
          have z9 := B9.lt
          exact ⟨.bool false, by simp [results, Tryz.results37, go_sem, x9, y9, z9], by rw [HR.out], hbs.out.trans (hW''.mono (by omega))⟩
      · have k2 : ¬ (j : Int) < (m.fs.length : Int) := by omega
        have HE : Hid (res = true) := hid (by rw [HA.out, List.drop_of_length_le (by omega)]; rfl)
        have x8 := B8'.cellF
        have y8 := B8'.frz
        have z8 := B8'.lt
        have HB8 := hid (B8'.set 0 (.bool true))
        have hbw : Hid (Below w.heap.size w W) := hid (below_trans hbz.out hb.out)
        have hsW := hb.out.size
        gi_wp2
        refine leave_all (base := w1.heap.size) 3 Ds _ (HC.out.keep (fun D hD => Below.heap_setCell _ _ _ _ (by have := (HC.out.2 D hD).1; simp; omega))) (by simpa [World.setCell] using hsW) (fun W' hW' => ?_)
        have B9 : Blk W' (w.heap.size + 1 + 1 + 1 + 1) 4 #[.bool true] := (hW'.block _ (by omega)).trans HB8.out
        have x9 := B9.cellF
        have y9 := B9.frz
        have z9 := B9.lt
        exact ⟨.bool true, by simp [results, Tryz.results37, go_sem, x9, y9, z9], by rw [HE.out], Below.trans (by have := hbw.out; exact blBy) (hW'.mono (by omega))⟩
end Go.Proofs.YtnfdlnelfnigdaaGreatDoor
namespace Go.Proofs.YtnfdlnelfnigdaaGreatDoor
open Go.RowKit
set_option maxRecDepth 1000000
set_option linter.unusedVariables false
set_option linter.unusedSimpArgs false
set_option maxHeartbeats 1000000
theorem shT_of {w : World} {x : TV} (h : TyR w x) : ShT x := by
  obtain ⟨a1, c1, e1, -⟩ := rowS_sl h.f
  obtain ⟨a2, c2, e2, -⟩ := rowS_sl h.o
  obtain ⟨a3, c3, e3, -⟩ := rowS_sl h.s
  obtain ⟨a4, c4, e4, -⟩ := rowS_sl h.r
  exact ⟨a1, c1, a2, c2, a3, c3, a4, c4, e1, e2, e3, e4⟩
/-- A good table's fields rise, of an enum too. -/
theorem good_rise {l : List TV} (hg : goodB l = true) {x : TV} (hx : x ∈ l) : Rise x.t.fs ∧ x.t.fs.length ≤ 128 := by
  obtain ⟨k, hk, rfl⟩ := List.mem_iff_getElem.1 hx
  cases he : l[k].t.enum with
  | false => exact good_msg hg hk he
  | true =>
    have h := good_at hg hk
    unfold stepB typB at h
    rw [he] at h
    simp only [Bool.and_eq_true, if_true, decide_eq_true_eq] at h
    have h3 : l[k].t.fs.length = 0 := by have := h.2.2.2.1; omega
    rw [List.eq_nil_of_length_eq_zero h3]
    exact ⟨fun i j _ hj => by simp at hj, by simp⟩
/-- A field's Ref names a type, whatever its kind. -/
theorem good_refs {l : List TV} (hg : goodB l = true) {x : TV} (hx : x ∈ l) {o : FT} (ho : o ∈ x.t.fs) : 0 ≤ o.ref ∧ o.ref.toNat < l.length := by
  obtain ⟨k, hk, rfl⟩ := List.mem_iff_getElem.1 hx
  have h := good_at hg hk
  unfold stepB typB at h
  simp only [Bool.and_eq_true] at h
  have h2 := h.2.2.2
  split at h2
  · rw [Bool.and_eq_true, decide_eq_true_eq] at h2
    have h3 : l[k].t.fs.length = 0 := by omega
    rw [List.eq_nil_of_length_eq_zero h3] at ho
    exact absurd ho (by simp)
  · unfold msgB at h2
    simp only [Bool.and_eq_true] at h2
    have h3 := List.all_eq_true.1 h2.2.2.1 o ho
    unfold fldB at h3
    simp only [Bool.and_eq_true] at h3
    have h4 := h3.2.1
    unfold refB at h4
    split at h4
    · split at h4
      · rename_i y hy
        rw [Bool.and_eq_true, decide_eq_true_eq] at h4
        exact ⟨h4.1, (List.getElem?_eq_some_iff.1 hy).1⟩
      · simp at h4
    · rw [decide_eq_true_eq] at h4
      rw [h4]
      exact ⟨by omega, by simp; omega⟩
theorem belowT (w : World) (l : List TV) (ta : Option Addr) (tc : Nat) (h : TbR w (.slice ta l.length tc) l) (hg : goodB l = true) (x : TV) (hx : x ∈ l) (Z : Nat → Prop) (d : Nat) (cs : List Value) (f : CF CM) (hf : FldE w Z (MsgE w Z d) cs f) (o : FT) (ho : o ∈ x.t.fs) (hn : o.num = f.num) (y : TV) (hy : l[o.ref.toNat]? = some y) : Calls Tryz.prog 31 #[.agg #[.slice ta l.length tc], .agg (cTV x).toArray, .agg cs.toArray] w fun e w' => e = .returned (.agg (cTV y).toArray) ∧ Below w.heap.size w w' := by
  obtain ⟨ka, kc, va, vc, rfl, -⟩ := fld_open hf
  have hyl : o.ref.toNat < l.length := (List.getElem?_eq_some_iff.1 hy).1
  have hye : l[o.ref.toNat] = y := (List.getElem?_eq_some_iff.1 hy).2
  have TX := h.ty x hx
  have TYY := h.ty y (by rw [← hye]; exact List.getElem_mem hyl)
  obtain ⟨ta1, tc1, ta2, tc2, ta3, tc3, ta4, tc4, e1, e2, e3, e4⟩ := shT_of TX
  obtain ⟨sa1, sc1, sa2, sc2, sa3, sc3, sa4, sc4, g1, g2, g3, g4⟩ := shT_of TYY
  have ecx : cTV x = [.string (strOfNums x.t.name), .bool x.t.enum, .slice ta1 x.t.fs.length tc1, .slice ta2 x.t.os.length tc2, .slice ta3 x.t.ss.length tc3, .slice ta4 x.t.rs.length tc4] := by unfold cTV; rw [e1, e2, e3, e4]
  have ecy : cTV y = [.string (strOfNums y.t.name), .bool y.t.enum, .slice sa1 y.t.fs.length sc1, .slice sa2 y.t.os.length sc2, .slice sa3 y.t.ss.length sc3, .slice sa4 y.t.rs.length sc4] := by unfold cTV; rw [g1, g2, g3, g4]
  obtain ⟨k, hk, hke⟩ := List.mem_iff_getElem.1 ho
  have HFO := hid fun W (hW : Below w.heap.size w W) => fieldOfOk x.t.fs f.num W ta1 tc1 (by rw [← e1]; exact (TX.kept hW).f) (good_rise hg hx).1 (good_rise hg hx).2 k hk (by rw [hke]; exact hn)
  rw [hke] at HFO
  obtain ⟨r0, r1⟩ := good_refs hg hx ho
  obtain ⟨j, hj⟩ := Int.eq_ofNat_of_zero_le r0
  have ht : o.ref.toNat = j := by omega
  rw [ht] at hy
  clear hye hyl
  have hyl : j < l.length := (List.getElem?_eq_some_iff.1 hy).1
  have hye : l[j] = y := (List.getElem?_eq_some_iff.1 hy).2
  obtain ⟨tb, tof, rfl, hbl, c0, c1, c2, c3, c4, c5⟩ := row6 h.row hyl
  rw [hye] at c0 c1 c2 c3 c4 c5
  rw [g1] at c2
  rw [g2] at c3
  rw [g3] at c4
  rw [g4] at c5
  rw [hj] at HFO
  rw [ecx, ecy]
  have k1 : (j : Int) < (l.length : Int) := by omega
  obtain ⟨_, _, el, l63⟩ := rowS_sl h.row
  clear el
  have m1 : (l.length : Int) ≤ 9223372036854775807 := by omega
  clear h hf TX TYY e1 e2 e3 e4 g1 g2 g3 g4 ecx ecy hke ho hy hye r0 r1 hx hg hn ht hj
  generalize o.ref = rf at *
  go_enter Tryz.func31, Tryz.ntmps31
  go_wp2_with fail
  refine (HFO.out _ (by exact blBy)).mono ?_
  rintro e w1 ⟨rfl, hb1⟩
  have B3 : Blk w1 w.heap.size 68 #[.slice (some ⟨tb, tof, none⟩) l.length tc] := ((((Blk.new _ _ _).kept (below_alloc _)).kept (below_alloc _)).kept (below_alloc _)).kept hb1
  have Br : Blk w1 (w.heap.size + 1 + 1 + 1) 66 #[.string ⟨#[]⟩, .bool false, .slice none 0 0, .slice none 0 0, .slice none 0 0, .slice none 0 0] := (Blk.newAt (by simp)).kept hb1
  have hbz : Hid (Below w.heap.size w w1) := hid (bl_then (by exact blBy) hb1)
  have hs1 : w.heap.size + 4 ≤ w1.heap.size := by have := hb1.size; simpa using this
  clear hb1 HFO
  replace c0 := cell_below c0 hbz.out
  replace c1 := cell_below c1 hbz.out
  replace c2 := cell_below c2 hbz.out
  replace c3 := cell_below c3 hbz.out
  replace c4 := cell_below c4 hbz.out
  replace c5 := cell_below c5 hbz.out
  have hne : tb ≠ w.heap.size + 1 + 1 + 1 := by omega
  have hbl2 : tb < w1.heap.size := World.block_lt_of_cell? _ _ c0
  have x3 := B3.cellF
  have z3 := B3.lt
  have xr := Br.cellF
  have yr := Br.frz
  have zr := Br.lt
  clear hbl
  go_wp2
  exact bodyPost_ret (v := .agg #[.string (strOfNums y.t.name), .bool y.t.enum, .slice sa1 y.t.fs.length sc1, .slice sa2 y.t.os.length sc2, .slice sa3 y.t.ss.length sc3, .slice sa4 y.t.rs.length sc4]) (by simp [results, Tryz.results31, go_sem, xr, zr, yr]) rfl ⟨rfl, by have := hbz.out; exact blBy⟩
end Go.Proofs.YtnfdlnelfnigdaaGreatDoor
namespace Go.Proofs.YtnfdlnelfnigdaaGreatDoor
open Go.RowKit
set_option maxRecDepth 1000000
set_option linter.unusedVariables false
set_option linter.unusedSimpArgs false
set_option maxHeartbeats 1000000
theorem msgAtOk (w : World) (l : List TV) (ta : Option Addr) (tc : Nat) (h : TbR w (.slice ta l.length tc) l) (hk : ∀ x ∈ l, OkV x) (m : Int) (hm : w.cell? ⟨0, 0, none⟩ = some (.int .i64 m)) (k : Nat) (hkl : k < l.length) (hg : goodB l = true) (he : l[k].t.enum = false) : Calls Tryz.prog 35 #[.agg #[.slice ta l.length tc], .int .i64 (k : Int)] w fun e w' => e = .returned (.tuple #[.agg #[.string (strOfNums l[k].t.name), .bool false, l[k].f, l[k].o, l[k].s, l[k].r], .int .i64 0]) ∧ Below w.heap.size w w' := by
  obtain ⟨_, _, e, hn⟩ := rowS_sl h.row
  clear e
  have h63 : (l.length : Int) ≤ 9223372036854775807 := by omega
  have HTY := hid (h.ty _ (List.getElem_mem hkl))
  have HGC : Hid (∀ W, Below w.heap.size w W → Calls Tryz.prog 76 #[.agg #[.slice ta l.length tc]] W fun e w' => e = .returned (.bool true) ∧ Below W.heap.size W w') := hid fun W hW => by
    have := goodT W l ta tc (h.kept hW) hk m (cell_below hm hW)
    rw [hg] at this
    exact this
  obtain ⟨tb, tof, rfl, hbl, c0, c1, c2, c3, c4, c5⟩ := row6 h.row hkl
  rw [he] at c1
  have r2 : ((k : Int) < 0) = False := eq_false (by omega)
  have r4 : ((l.length : Int) ≤ (k : Int)) = False := eq_false (by omega)
  have r5 : (k : Int) < (l.length : Int) := by omega
  clear h hk hm hg he
  generalize l[k] = x at *
  obtain ⟨t, f, o, s, r⟩ := x
  obtain ⟨fa, fc, ef, -⟩ := rowS_sl HTY.out.f
  obtain ⟨oa, oc, eo, -⟩ := rowS_sl HTY.out.o
  obtain ⟨sa, sc, es, -⟩ := rowS_sl HTY.out.s
  obtain ⟨ra, rc, er, -⟩ := rowS_sl HTY.out.r
  dsimp only at ef eo es er
  subst ef eo es er
  dsimp only at c0 c1 c2 c3 c4 c5
  dsimp only
  go_enter Tryz.func35, Tryz.ntmps35
  go_wp2_with fail
  refine (HGC.out _ (by exact blBy)).mono ?_
  rintro e w1 ⟨rfl, hb1⟩
  have Ba : Blk w1 w.heap.size 46 #[.slice (some ⟨tb, tof, none⟩) l.length tc] := ((Blk.new _ _ _).kept (below_alloc _)).kept hb1
  have Br : Blk w1 (w.heap.size + 1) 66 #[.string ⟨#[]⟩, .bool false, .slice none 0 0, .slice none 0 0, .slice none 0 0, .slice none 0 0] := (Blk.newAt (by simp)).kept hb1
  replace hb1 : Hid (Below w.heap.size w w1) := hid (bl_then (by exact blBy) hb1)
  have d0 := cell_below c0 hb1.out
  have d1 := cell_below c1 hb1.out
  have d2 := cell_below c2 hb1.out
  have d3 := cell_below c3 hb1.out
  have d4 := cell_below c4 hb1.out
  have d5 := cell_below c5 hb1.out
  have hbl1 : tb < w1.heap.size := World.block_lt_of_cell? _ _ d0
  have hne : tb ≠ w.heap.size + 1 := by omega
  clear c0 c1 c2 c3 c4 c5
  have xa := Ba.cellF
  have za := Ba.lt
  have xr := Br.cellF
  have yr := Br.frz
  have zr := Br.lt
  go_wp2
  exact bodyPost_ret (v := .tuple #[.agg #[.string (strOfNums t.name), .bool false, .slice fa t.fs.length fc, .slice oa t.os.length oc, .slice sa t.ss.length sc, .slice ra t.rs.length rc], .int .i64 0]) (by simp [results, Tryz.results35, go_sem, xr, zr, yr]) rfl ⟨rfl, by have := hb1.out; exact blBy⟩
theorem msgAtNo (w : World) (l : List TV) (ta : Option Addr) (tc : Nat) (h : TbR w (.slice ta l.length tc) l) (hk : ∀ x ∈ l, OkV x) (m : Int) (hm : w.cell? ⟨0, 0, none⟩ = some (.int .i64 m)) (idx : Int) (hno : isB l idx false = false) : Calls Tryz.prog 35 #[.agg #[.slice ta l.length tc], .int .i64 idx] w fun e w' => e = .returned (.tuple #[.agg #[.string ⟨#[]⟩, .bool false, .slice none 0 0, .slice none 0 0, .slice none 0 0, .slice none 0 0], .int .i64 18]) ∧ Below w.heap.size w w' := by
  obtain ⟨_, _, e, hn⟩ := rowS_sl h.row
  clear e
  have h63 : (l.length : Int) ≤ 9223372036854775807 := by omega
  have HGC : Hid (∀ W, Below w.heap.size w W → Calls Tryz.prog 76 #[.agg #[.slice ta l.length tc]] W fun e w' => e = .returned (.bool (goodB l)) ∧ Below W.heap.size W w') := hid fun W hW => goodT W l ta tc (h.kept hW) hk m (cell_below hm hW)
  unfold isB at hno
  cases q : goodB l with
  | false =>
    rw [q] at HGC
    clear h hk hm hno
    go_enter Tryz.func35, Tryz.ntmps35
    go_wp2_with fail
    refine (HGC.out _ (by exact blBy)).mono ?_
    rintro e w1 ⟨rfl, hb1⟩
    have Ba : Blk w1 w.heap.size 46 #[.slice ta l.length tc] := ((Blk.new _ _ _).kept (below_alloc _)).kept hb1
    have Br : Blk w1 (w.heap.size + 1) 66 #[.string ⟨#[]⟩, .bool false, .slice none 0 0, .slice none 0 0, .slice none 0 0, .slice none 0 0] := (Blk.newAt (by simp)).kept hb1
    replace hb1 : Hid (Below w.heap.size w w1) := hid (bl_then (by exact blBy) hb1)
    have xa := Ba.cellF
    have ya := Ba.frz
    have za := Ba.lt
    have xr := Br.cellF
    have yr := Br.frz
    have zr := Br.lt
    go_wp2
    exact bodyPost_ret (v := .tuple #[.agg #[.string ⟨#[]⟩, .bool false, .slice none 0 0, .slice none 0 0, .slice none 0 0, .slice none 0 0], .int .i64 18]) (by simp [results, Tryz.results35, go_sem, xr, zr, yr]) rfl ⟨rfl, by have := hb1.out; exact blBy⟩
  | true =>
  rw [q] at HGC hno
  by_cases r1 : idx < 0
  case pos =>
    have r2 : (idx < 0) = True := eq_true r1
    clear h hk hm hno r1
    go_enter Tryz.func35, Tryz.ntmps35
    go_wp2_with fail
    refine (HGC.out _ (by exact blBy)).mono ?_
    rintro e w1 ⟨rfl, hb1⟩
    have Ba : Blk w1 w.heap.size 46 #[.slice ta l.length tc] := ((Blk.new _ _ _).kept (below_alloc _)).kept hb1
    have Br : Blk w1 (w.heap.size + 1) 66 #[.string ⟨#[]⟩, .bool false, .slice none 0 0, .slice none 0 0, .slice none 0 0, .slice none 0 0] := (Blk.newAt (by simp)).kept hb1
    replace hb1 : Hid (Below w.heap.size w w1) := hid (bl_then (by exact blBy) hb1)
    have xa := Ba.cellF
    have ya := Ba.frz
    have za := Ba.lt
    have xr := Br.cellF
    have yr := Br.frz
    have zr := Br.lt
    go_wp2
    exact bodyPost_ret (v := .tuple #[.agg #[.string ⟨#[]⟩, .bool false, .slice none 0 0, .slice none 0 0, .slice none 0 0, .slice none 0 0], .int .i64 18]) (by simp [results, Tryz.results35, go_sem, xr, zr, yr]) rfl ⟨rfl, by have := hb1.out; exact blBy⟩
  by_cases r3 : (l.length : Int) ≤ idx
  case pos =>
    have r2 : (idx < 0) = False := eq_false r1
    have r4 : ((l.length : Int) ≤ idx) = True := eq_true r3
    clear h hk hm hno r1 r3
    go_enter Tryz.func35, Tryz.ntmps35
    go_wp2_with fail
    refine (HGC.out _ (by exact blBy)).mono ?_
    rintro e w1 ⟨rfl, hb1⟩
    have Ba : Blk w1 w.heap.size 46 #[.slice ta l.length tc] := ((Blk.new _ _ _).kept (below_alloc _)).kept hb1
    have Br : Blk w1 (w.heap.size + 1) 66 #[.string ⟨#[]⟩, .bool false, .slice none 0 0, .slice none 0 0, .slice none 0 0, .slice none 0 0] := (Blk.newAt (by simp)).kept hb1
    replace hb1 : Hid (Below w.heap.size w w1) := hid (bl_then (by exact blBy) hb1)
    have xa := Ba.cellF
    have ya := Ba.frz
    have za := Ba.lt
    have xr := Br.cellF
    have yr := Br.frz
    have zr := Br.lt
    go_wp2
    exact bodyPost_ret (v := .tuple #[.agg #[.string ⟨#[]⟩, .bool false, .slice none 0 0, .slice none 0 0, .slice none 0 0, .slice none 0 0], .int .i64 18]) (by simp [results, Tryz.results35, go_sem, xr, zr, yr]) rfl ⟨rfl, by have := hb1.out; exact blBy⟩
  obtain ⟨k, rfl⟩ := Int.eq_ofNat_of_zero_le (show 0 ≤ idx by omega)
  have hkl : k < l.length := by omega
  obtain ⟨tb, tof, rfl, hbl, -, c1, -⟩ := row6 h.row hkl
  have hne : l[k].t.enum = true := by simpa [hkl] using hno
  have r2 : ((k : Int) < 0) = False := eq_false r1
  have r4 : ((l.length : Int) ≤ (k : Int)) = False := eq_false r3
  have r5 : (k : Int) < (l.length : Int) := by omega
  rw [hne] at c1
  clear h hk hm hno r1 r3 hne
  go_enter Tryz.func35, Tryz.ntmps35
  go_wp2_with fail
  refine (HGC.out _ (by exact blBy)).mono ?_
  rintro e w1 ⟨rfl, hb1⟩
  have Ba : Blk w1 w.heap.size 46 #[.slice (some ⟨tb, tof, none⟩) l.length tc] := ((Blk.new _ _ _).kept (below_alloc _)).kept hb1
  have Br : Blk w1 (w.heap.size + 1) 66 #[.string ⟨#[]⟩, .bool false, .slice none 0 0, .slice none 0 0, .slice none 0 0, .slice none 0 0] := (Blk.newAt (by simp)).kept hb1
  replace hb1 : Hid (Below w.heap.size w w1) := hid (bl_then (by exact blBy) hb1)
  have d1 := cell_below c1 hb1.out
  have hbl1 : tb < w1.heap.size := World.block_lt_of_cell? _ _ d1
  clear c1
  have xa := Ba.cellF
  have ya := Ba.frz
  have za := Ba.lt
  have xr := Br.cellF
  have yr := Br.frz
  have zr := Br.lt
  go_wp2
  exact bodyPost_ret (v := .tuple #[.agg #[.string ⟨#[]⟩, .bool false, .slice none 0 0, .slice none 0 0, .slice none 0 0, .slice none 0 0], .int .i64 18]) (by simp [results, Tryz.results35, go_sem, xr, zr, yr]) rfl ⟨rfl, by have := hb1.out; exact blBy⟩
end Go.Proofs.YtnfdlnelfnigdaaGreatDoor
namespace Go.Proofs.YtnfdlnelfnigdaaGreatDoor
open Go.RowKit
set_option maxRecDepth 1000000
set_option linter.unusedVariables false
set_option linter.unusedSimpArgs false
set_option maxHeartbeats 1000000
/-- Numbers that rise. -/
def riseM (l : List (CF CM)) : Bool := (List.range (l.length - 1)).all fun i => match l[i]?, l[i + 1]? with | some a, some b => decide (a.num < b.num) | _, _ => true
def riseS (l : List (CF CM)) (j : Nat) : Bool := (List.range' j (l.length - 1 - j)).all fun i => match l[i]?, l[i + 1]? with | some a, some b => decide (a.num < b.num) | _, _ => true
theorem riseS_zero (l : List (CF CM)) : riseM l = riseS l 0 := by unfold riseM riseS; rw [List.range_eq_range']; rfl
theorem riseS_step (l : List (CF CM)) (j : Nat) (h : j + 1 < l.length) : riseS l j = (decide (l[j].num < l[j + 1].num) && riseS l (j + 1)) := by
  unfold riseS
  rw [show l.length - 1 - j = (l.length - 1 - (j + 1)) + 1 by omega, List.range'_succ, List.all_cons]
  simp [h, show j < l.length by omega]
theorem riseS_end (l : List (CF CM)) (j : Nat) (h : l.length ≤ j + 1) : riseS l j = true := by
  unfold riseS
  rw [show l.length - 1 - j = 0 by omega]
  rfl
theorem doRiseM (w : World) (Z : Nat → Prop) (d : Nat) (xs : List (CF CM)) (a : Option Addr) (c : Nat) (h : FlsR w Z d (.slice a xs.length c) xs) : Calls Tryz.prog 113 #[.slice a xs.length c] w fun e w' => e = .returned (.bool (riseM xs)) ∧ Below w.heap.size w w' := by
  obtain ⟨_, _, e1, l1⟩ := RowM.sl h
  clear e1
  have m1 : (xs.length : Int) ≤ 9223372036854775807 := by omega
  have H1 := hid h
  clear h
  go_enter Tryz.func113, Tryz.ntmps113
  go_wp2
  go_loopw [3] (fun s3 wr => ∃ j : Nat, s3 = .int .i64 ((j : Int) + 1) ∧ (j ≤ xs.length) ∧ Hid (riseM xs = riseS xs j) ∧ Hid (Below w.heap.size w wr)) (fun s3 wr => xs.length + 1 - numAt wr s3)
  case atStart => exact ⟨0, rfl, by omega, hid (riseS_zero xs), hid (Below.refl _ _)⟩
  case round =>
    obtain ⟨j, rfl, hj, HA, hb⟩ := hrel
    by_cases hlt : j + 1 < xs.length
    · have k2 : (j : Int) + 1 < (xs.length : Int) := by omega
      have k3 : (j : Int) + 1 - 1 = (j : Int) := by omega
      have k4 : (j : Int) < (xs.length : Int) := by omega
      obtain ⟨b1, o1, ka1, kc1, va1, vc1, rfl, -, hb1, c0, -, -, -⟩ := fls_at (H1.out.kept hb.out) (show j < xs.length by omega)
      obtain ⟨b2, o2, ka2, kc2, va2, vc2, e2, -, -, d0, -, -, -⟩ := fls_at (H1.out.kept hb.out) hlt
      cases e2
      have HST := hid (riseS_step xs j hlt)
      generalize xs[j].num = p at *
      generalize xs[j + 1].num = q at *
      have e5 : ((j : Int) + 1).toNat = j + 1 := by omega
      by_cases hq : p < q
      · have hq2 : ¬ q ≤ p := by omega
        have HQ : Hid (riseM xs = riseS xs (j + 1)) := hid (by rw [HA.out, HST.out]; simp [hq])
        go_wp2
        go_quiet (fail)
        go_wp2
        exact ⟨⟨j + 1, by simp, by omega, HQ, hid (by have := hb.out; exact blBy)⟩, by simp [numAt]; omega⟩
      · have hq2 : q ≤ p := by omega
        have HQ : Hid (riseM xs = false) := hid (by rw [HA.out, HST.out]; simp [hq])
        go_wp2
        go_quiet (fail)
        go_wp2
        go_ret
        exact ⟨ret_bool HQ.out.symm, by have := hb.out; exact blBy⟩
    · have k2 : ¬ (j : Int) + 1 < (xs.length : Int) := by omega
      have HX : Hid (riseM xs = true) := hid (by rw [HA.out, riseS_end xs j (by omega)])
      go_wp2
      go_ret
      exact ⟨ret_bool HX.out.symm, hb.out⟩
end Go.Proofs.YtnfdlnelfnigdaaGreatDoor
namespace Go.Proofs.YtnfdlnelfnigdaaGreatDoor
open Go.RowKit
set_option maxRecDepth 1000000
set_option linter.unusedVariables false
set_option linter.unusedSimpArgs false
set_option maxHeartbeats 1000000
/-- As many keys and values as a label has. -/
def shapeB (lab : Int) (f : CF CM) : Bool := if lab = 2 ∨ lab = 3 then decide (f.ks.length = 0) else if lab = 5 then decide (f.ks.length = f.vs.length) else decide (f.ks.length = 0) && decide (f.vs.length = 1)
theorem hasShapeM (w : World) (Z : Nat → Prop) (d : Nat) (lab : Int) (cs : List Value) (f : CF CM) (hf : FldE w Z (MsgE w Z d) cs f) : Calls Tryz.prog 145 #[.int .i64 lab, .agg cs.toArray] w fun e w' => e = .returned (.bool (shapeB lab f)) ∧ Below w.heap.size w w' := by
  obtain ⟨ka, kc, va, vc, rfl, -, -, l1, l2, -⟩ := fld_open hf
  clear hf
  have m1 : (f.ks.length : Int) ≤ 9223372036854775807 := by omega
  have m2 : (f.vs.length : Int) ≤ 9223372036854775807 := by omega
  have HX0 : Hid (shapeB lab f = if lab = 2 ∨ lab = 3 then decide (f.ks.length = 0) else if lab = 5 then decide (f.ks.length = f.vs.length) else decide (f.ks.length = 0) && decide (f.vs.length = 1)) := hid rfl
  by_cases h2 : lab = 2
  · subst h2
    have HX : Hid (shapeB 2 f = ((f.ks.length : Int) == 0)) := hid (by rw [HX0.out, if_pos (.inl rfl), Bool.eq_iff_iff]; simp)
    go_enter Tryz.func145, Tryz.ntmps145
    go_wp2
    go_ret
    exact ⟨ret_bool HX.out.symm, by exact blBy⟩
  by_cases h3 : lab = 3
  · subst h3
    have HX : Hid (shapeB 3 f = ((f.ks.length : Int) == 0)) := hid (by rw [HX0.out, if_pos (.inr rfl), Bool.eq_iff_iff]; simp)
    go_enter Tryz.func145, Tryz.ntmps145
    go_wp2
    go_ret
    exact ⟨ret_bool HX.out.symm, by exact blBy⟩
  by_cases h5 : lab = 5
  · subst h5
    have HX : Hid (shapeB 5 f = ((f.ks.length : Int) == (f.vs.length : Int))) := hid (by rw [HX0.out, if_neg (by decide), if_pos rfl, Bool.eq_iff_iff]; simp; omega)
    go_enter Tryz.func145, Tryz.ntmps145
    go_wp2
    go_ret
    exact ⟨ret_bool HX.out.symm, by exact blBy⟩
  have q2 : (lab == 2) = false := by simpa using h2
  have q3 : (lab == 3) = false := by simpa using h3
  have q5 : (lab == 5) = false := by simpa using h5
  by_cases h0 : f.ks.length = 0
  · have q0 : ((f.ks.length : Int) == 0) = true := by simp [h0]
    have HX : Hid (shapeB lab f = ((f.vs.length : Int) == 1)) := hid (by rw [HX0.out, if_neg (by omega), if_neg h5, Bool.eq_iff_iff]; simp [h0]; omega)
    clear h0
    go_enter Tryz.func145, Tryz.ntmps145
    go_wp2
    go_ret
    exact ⟨ret_bool HX.out.symm, by exact blBy⟩
  · have q0 : ((f.ks.length : Int) == 0) = false := by simpa using h0
    have HX : Hid (shapeB lab f = false) := hid (by rw [HX0.out, if_neg (by omega), if_neg h5]; simp [h0])
    clear h0
    go_enter Tryz.func145, Tryz.ntmps145
    go_wp2
    go_ret
    exact ⟨ret_bool HX.out.symm, by exact blBy⟩
end Go.Proofs.YtnfdlnelfnigdaaGreatDoor
namespace Go.Proofs.YtnfdlnelfnigdaaGreatDoor
open Go.RowKit
set_option maxRecDepth 1000000
set_option linter.unusedVariables false
set_option linter.unusedSimpArgs false
set_option maxHeartbeats 1000000
/-- A type's field of a number, or the empty one. -/
def ownF (fs : List FT) (n : Int) : FT := (fs.find? (fun o => o.num == n)).getD ftZ
def hasF (fs : List FT) (n : Int) : Bool := (fs.find? (fun o => o.num == n)).isSome
theorem ownF_in {fs : List FT} {n : Int} (h : ownF fs n ≠ ftZ) : ownF fs n ∈ fs := by
  unfold ownF at *
  cases hq : fs.find? (fun o => o.num == n) with
  | none => rw [hq] at h; exact absurd rfl h
  | some o => exact List.mem_of_find?_eq_some hq
def tFT (o : FT) (b : Bool) : Value := .tuple #[.agg #[.string (strOfNums o.name), .int .i64 o.num, .int .i64 o.kind, .int .i64 o.ref, .int .i64 o.lab, .int .i64 o.one, .int .i64 o.key], .bool b]
theorem findT (fs : List FT) (n : Int) (w : World) (a : Option Addr) (c : Nat) (h : RowS w AnyZ 7 (.slice a fs.length c) fs.length (fs.flatMap cFT)) (hr : Rise fs) (hl : fs.length ≤ 128) : Calls Tryz.prog 74 #[.slice a fs.length c, .int .i64 n] w fun e w' => e = .returned (tFT (ownF fs n) (hasF fs n)) ∧ Below w.heap.size w w' := by
  unfold ownF hasF
  cases hq : fs.find? (fun o => o.num == n) with
  | none => exact fieldOfNo fs n w a c h hr hl (fun f hf => by have := List.find?_eq_none.1 hq f hf; simpa using this)
  | some o =>
    obtain ⟨k, hk, hke⟩ := List.mem_iff_getElem.1 (List.mem_of_find?_eq_some hq)
    have := List.find?_some hq
    have h2 := fieldOfOk fs n w a c h hr hl k hk (by rw [hke]; simpa using this)
    rw [hke] at h2
    exact h2
/-- Which oneofs are taken. -/
def takeA (T : Nat → Bool) : Array Value := ((List.range 128).map fun i => Value.bool (T i)).toArray
theorem takeA_at (T : Nat → Bool) {k : Nat} (hk : k < 128) : (takeA T)[k]? = some (.bool (T k)) := by simp [takeA, hk]
theorem takeA_set (T : Nat → Bool) (k : Nat) : (takeA T).setIfInBounds k (.bool true) = takeA (fun i => i == k || T i) := by
  apply Array.ext_getElem?
  intro i
  rw [Array.getElem?_setIfInBounds]
  unfold takeA
  by_cases hi : i < 128
  · by_cases hk : k = i
    · subst hk; simp [hi]
    · have : (i == k) = false := by simp; omega
      simp [hi, hk, this]
  · by_cases hk : k = i
    · subst hk; simp [hi]
    · simp [hk, hi]
def singleT (fs : List FT) : List (CF CM) → (Nat → Bool) → Bool
  | [], _ => true
  | f :: r, T => if (ownF fs f.num).lab = 4 then (if T (ownF fs f.num).one.toNat then false else singleT fs r (fun i => i == (ownF fs f.num).one.toNat || T i)) else singleT fs r T
def singleB (fs : List FT) (l : List (CF CM)) : Bool := singleT fs l (fun _ => false)
theorem areSingleM (w : World) (x : TV) (hx : TyR w x) (hr : Rise x.t.fs) (hl : x.t.fs.length ≤ 128) (ho : ∀ o ∈ x.t.fs, o.lab = 4 → 0 ≤ o.one ∧ o.one < 128) (Z : Nat → Prop) (d : Nat) (xs : List (CF CM)) (a : Option Addr) (c : Nat) (h : FlsR w Z d (.slice a xs.length c) xs) : Calls Tryz.prog 115 #[.agg (cTV x).toArray, .slice a xs.length c] w fun e w' => e = .returned (.bool (singleB x.t.fs xs)) ∧ Below w.heap.size w w' := by
  obtain ⟨_, _, e1, l1⟩ := RowM.sl h
  clear e1
  have m1 : (xs.length : Int) ≤ 9223372036854775807 := by omega
  have H1 := hid h
  obtain ⟨ta1, tc1, ta2, tc2, ta3, tc3, ta4, tc4, e1, e2, e3, e4⟩ := shT_of hx
  have ecx : cTV x = [.string (strOfNums x.t.name), .bool x.t.enum, .slice ta1 x.t.fs.length tc1, .slice ta2 x.t.os.length tc2, .slice ta3 x.t.ss.length tc3, .slice ta4 x.t.rs.length tc4] := by unfold cTV; rw [e1, e2, e3, e4]
  rw [ecx]
  have HFO := hid fun W (hW : Below w.heap.size w W) (n : Int) => findT x.t.fs n W ta1 tc1 (by rw [← e1]; exact (hx.kept hW).f) hr hl
  have HO := hid ho
  clear h hx ho e1 e2 e3 e4 ecx hr
  go_enter Tryz.func115, Tryz.ntmps115
  go_wp2
  go_loopw [12] (fun s12 wr => ∃ (j : Nat) (T : Nat → Bool), s12 = .int .i64 j ∧ j ≤ xs.length ∧ Hid (singleB x.t.fs xs = singleT x.t.fs (xs.drop j) T) ∧ Hid (Below w.heap.size w wr) ∧ Hid (Blk wr w.heap.size 66 #[.string (strOfNums x.t.name), .bool x.t.enum, .slice ta1 x.t.fs.length tc1, .slice ta2 x.t.os.length tc2, .slice ta3 x.t.ss.length tc3, .slice ta4 x.t.rs.length tc4]) ∧ Hid (Blk wr (w.heap.size + 1) 174 (takeA T))) (fun s12 wr => xs.length - numAt wr s12)
  case atStart => exact ⟨0, fun _ => false, rfl, by omega, hid rfl, hid (by exact blBy), hid ((Blk.new _ _ _).kept (below_alloc _)), hid ((Blk.newAt (by simp)).is (by kernel_rfl))⟩
  case round =>
    obtain ⟨j, T, rfl, hj, HA, hb, HB2, HB5⟩ := hrel
    by_cases hlt : j < xs.length
    · have k2 : (j : Int) < (xs.length : Int) := by omega
      obtain ⟨b1, o1, ka1, kc1, va1, vc1, rfl, -, hb1, c0, c1, c2, -⟩ := fls_at (H1.out.kept hb.out) hlt
      have HST : Hid (singleT x.t.fs (xs.drop j) T = if (ownF x.t.fs xs[j].num).lab = 4 then (if T (ownF x.t.fs xs[j].num).one.toNat then false else singleT x.t.fs (xs.drop (j + 1)) (fun i => i == (ownF x.t.fs xs[j].num).one.toNat || T i)) else singleT x.t.fs (xs.drop (j + 1)) T) := hid (by rw [List.drop_eq_getElem_cons hlt, singleT])
      generalize xs[j] = f at *
      have HFJ := hid fun W (hW : Below w.heap.size w W) => HFO.out W hW f.num
      have HOJ : Hid ((ownF x.t.fs f.num).lab = 4 → 0 ≤ (ownF x.t.fs f.num).one ∧ (ownF x.t.fs f.num).one < 128) := hid (fun hq => HO.out _ (ownF_in (fun e => by rw [e] at hq; exact absurd hq (by decide))) hq)
      generalize ownF x.t.fs f.num = o at *
      generalize hasF x.t.fs f.num = ok at *
      have x2 := HB2.out.cellF
      have z2 := HB2.out.lt
      go_wp2_with fail
      refine (HFJ.out _ (by have := hb.out; exact blBy)).mono ?_
      rintro e w1 ⟨rfl, hbx⟩
      unfold tFT
      have C2 := hid ((HB2.out.kept (below_alloc _)).kept hbx)
      have C5 := hid ((HB5.out.kept (below_alloc _)).kept hbx)
      have hbw : Hid (Below w.heap.size w w1) := hid (bl_then (by have := hb.out; exact blBy) hbx)
      clear hbx c0 c1 c2 x2 z2 HB2 HB5 hb hb1
      by_cases hq : o.lab = 4
      · obtain ⟨r0, r1⟩ := HOJ.out hq
        obtain ⟨k, hk⟩ := Int.eq_ofNat_of_zero_le r0
        have hk2 : k < 128 := by omega
        have ht : o.one.toNat = k := by omega
        rw [ht, if_pos hq] at HST
        have kn : (o.lab != 4) = false := by simp [hq]
        generalize o.one = one at *
        subst hk
        have k3 : (k : Int) < 128 := by omega
        have x5 : w1.cell? ⟨w.heap.size + 1, k, none⟩ = some (.bool (T k)) := C5.out.cell k _ (takeA_at T hk2)
        have y5 := C5.out.frz
        have z5 := C5.out.lt
        clear r0 r1 hq ht HOJ
        cases hT : T k with
        | true =>
          rw [hT, if_pos rfl] at HST
          rw [hT] at x5
          have HX : Hid (singleB x.t.fs xs = false) := hid (by rw [HA.out, HST.out])
          go_wp2
          go_ret
          exact ⟨ret_bool HX.out.symm, by have := hbw.out; exact blBy⟩
        | false =>
          rw [hT, if_neg (by decide)] at HST
          rw [hT] at x5
          go_wp2
          refine ⟨⟨j + 1, fun i => i == k || T i, by simp, by omega, hid (by rw [HA.out, HST.out]), hid (by have := hbw.out; exact blBy), hid ?_, hid ?_⟩, by simp [numAt]; omega⟩
          · exact Blk.kept (show Blk _ _ _ _ from (Below.heap_setCell _ _ _ _ (by simp)).trans C2.out) (below_alloc _)
          · exact ((C5.out.set k (.bool true)).is (takeA_set T k)).kept (below_alloc _)
      · have kn : (o.lab != 4) = true := by simpa using hq
        rw [if_neg hq] at HST
        go_wp2
        exact ⟨⟨j + 1, T, by simp, by omega, hid (by rw [HA.out, HST.out]), hid (by have := hbw.out; exact blBy), hid (C2.out.kept (by exact blBy)), hid (C5.out.kept (by exact blBy))⟩, by simp [numAt]; omega⟩
    · have k2 : ¬ (j : Int) < (xs.length : Int) := by omega
      have HX : Hid (singleB x.t.fs xs = true) := hid (by rw [HA.out, List.drop_of_length_le (by omega)]; rfl)
      go_wp2
      go_ret
      exact ⟨ret_bool HX.out.symm, hb.out⟩
end Go.Proofs.YtnfdlnelfnigdaaGreatDoor
