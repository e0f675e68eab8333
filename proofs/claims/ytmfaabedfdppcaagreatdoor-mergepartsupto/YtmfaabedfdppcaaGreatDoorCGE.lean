/-
  The pairs of a field; both maps.
  Pairs in order; the second of two.
  A region whose loads are of cells that its own last stores write: what is asked of the world hangs on what has come up.
  Rows of one's own beside each other, whose structs hold other memory.
-/
import Derived.Test.YtmfaabedfdppcaaGreatDoorCGB
import Derived.Test.YtmfaabedfdppcaaGreatDoorCBA
import Derived.Test.YtmfaabedfdppcaaGreatDoorCTA
import Derived.Deep.RegionHeld3
import Derived.Test.YtmfaabedfdppcaaGreatDoorCAF
namespace Go.Proofs.YtmfaabedfdppcaaGreatDoor
open Go.RowKit
set_option maxRecDepth 1000000
set_option linter.unusedVariables false
set_option linter.unusedSimpArgs false
set_option maxHeartbeats 4000000
theorem prs_len {f : CF CM} (h : f.ks.length ≤ f.vs.length) : (prs f).length = f.ks.length := by unfold prs; rw [List.length_zip]; omega
theorem prs_get {f : CF CM} {j : Nat} (h1 : j < f.ks.length) (h2 : j < f.vs.length) : (prs f).take (j + 1) = (prs f).take j ++ [(f.ks[j], f.vs[j])] := by
  have hl : j < (prs f).length := by unfold prs; rw [List.length_zip]; omega
  rw [List.take_succ_eq_append_getElem hl]
  congr 2
  simp [prs, List.getElem_zip]
theorem pairsT (d : Nat) (w : World) (Z : Nat → Prop) (cs : List Value) (f : CF CM) (h : FmF d w Z cs f) (hl : f.ks.length ≤ f.vs.length) : Calls Tryz.prog 100 #[.agg cs.toArray] w fun e w' => ∃ a c, e = .returned (.slice a f.ks.length c) ∧ PrsR w' (fun b => Z b ∨ w.heap.size ≤ b) d (.slice a f.ks.length c) (prs f) ∧ Below w.heap.size w w' := by
  obtain ⟨ka, kc, va, vc, rfl, g1, g2, -⟩ := fld_open h
  obtain ⟨_, _, -, l1⟩ := RowM.sl g1
  obtain ⟨_, _, -, l2⟩ := RowM.sl g2
  have m1 : (f.ks.length : Int) ≤ 9223372036854775807 := by omega
  have m2 : (f.vs.length : Int) ≤ 9223372036854775807 := by omega
  have HL := hid (prs_len hl)
  have HG1 := hid fun W (hW : Below w.heap.size w W) => VlsR.kept g1 hW
  have HG2 := hid fun W (hW : Below w.heap.size w W) => VlsR.kept g2 hW
  clear h g1 g2
  go_enter Tryz.func100, Tryz.ntmps100
  go_wp2
  generalize hw0 : w.alloc _ = w0
  have HB0 : Hid (Below w.heap.size w w0) := hid (hw0 ▸ below_alloc _)
  have BX : Hid (Blk w0 w.heap.size 33 #[.int .i64 f.num, .slice ka f.ks.length kc, .slice va f.vs.length vc]) := hid (hw0 ▸ Blk.new _ _ _)
  have HS0 : w0.heap.size = w.heap.size + 1 := by rw [← hw0]; simp
  clear hw0
  go_loopw [3, 9] (fun s3 s9 wr => ∃ (j : Nat) (oa : Option Addr) (oc : Nat), s3 = .slice oa j oc ∧ s9 = .int .i64 (j : Int) ∧ j ≤ f.ks.length ∧ Hid (OwnA wr w0.heap.size Z 160 6 (FmP d) (.slice oa j oc) ((prs f).take j)) ∧ Hid (Below w0.heap.size w0 wr)) (fun s3 s9 wr => f.ks.length - numAt wr s9)
  case atStart => exact ⟨0, none, 0, rfl, rfl, by omega, hid (OwnA.nil _ _ _ _ _ _), hid (Below.refl _ _)⟩
  case round =>
    obtain ⟨j, oa, oc, rfl, rfl, hj, HO, HB⟩ := hrel
    by_cases hlt : j < f.ks.length
    · have k2 : (j : Int) < (f.ks.length : Int) := by omega
      have hlv : j < f.vs.length := by omega
      have k3 : (j : Int) < (f.vs.length : Int) := by omega
      obtain ⟨b1, o1, ba, bc, ma, mc, rfl, -, hb1, c0, c1, c2, he⟩ := vls_at (HG1.out _ HB0.out) hlt
      obtain ⟨b2, o2, da, dc, na, nc, rfl, -, hb2, d0, d1, d2, hg⟩ := vls_at (HG2.out _ HB0.out) hlv
      have HTK := hid (prs_get hlt hlv)
      have HP : Hid (FmP d w0 Z [.int .u64 f.ks[j].n, .slice ba f.ks[j].b.length bc, .slice ma f.ks[j].ms.length mc, .int .u64 f.vs[j].n, .slice da f.vs[j].b.length dc, .slice na f.vs[j].ms.length nc] (f.ks[j], f.vs[j])) := hid ⟨_, _, rfl, he, hg⟩
      have BX1 := hid (BX.out.kept HB.out)
      have D0 := hid d0
      have D1 := hid d1
      have D2 := hid d2
      replace c0 := cell_below c0 HB.out
      replace c1 := cell_below c1 HB.out
      replace c2 := cell_below c2 HB.out
      replace d0 := cell_below d0 HB.out
      replace d1 := cell_below d1 HB.out
      replace d2 := cell_below d2 HB.out
      have xx := BX1.out.cellF
      have zx := BX1.out.lt
      clear he hg
      generalize f.ks[j] = x at *
      generalize f.vs[j] = y at *
      go_wp2_with fail
      generalize hw1 : wr.alloc _ = w1
      have HBa : Hid (Below wr.heap.size wr w1) := hid (hw1 ▸ below_alloc _)
      have BP : Hid (Blk w1 wr.heap.size 39 #[.int .u64 x.n, .slice ba x.b.length bc, .slice ma x.ms.length mc]) := hid (hw1 ▸ Blk.new _ _ _)
      have HPS : Hid (∀ q, (Value.slice oa j oc).ownBlock = some q → q < wr.heap.size) := hid fun q e => (HO.out.own e).2
      clear hw1
      replace d0 := cell_below d0 HBa.out
      replace d1 := cell_below d1 HBa.out
      replace d2 := cell_below d2 HBa.out
      replace BX1 := hid (BX1.out.kept HBa.out)
      replace HO := hid (HO.out.kept (famP d) HBa.out)
      replace HB := hid (below_trans HB.out HBa.out)
      generalize wr.heap.size = p at *
      have HLJ : Hid (((prs f).take j).length = j) := hid (by rw [List.length_take, HL.out]; omega)
      have HOd := hid (HO.out.kept (famP d) (below_drew1 w1))
      have HBd := hid (below_trans HB.out (below_drew1 _))
      have HZ := hid (zofA_old (famP d) HOd.out HP.out HBd.out)
      obtain ⟨la, lc, x1, HRUN, HO2, HGr⟩ := OwnA.push (famP d) 160 164 112 (.agg #[.int .u64 0, .slice none 0 0, .slice none 0 0, .int .u64 0, .slice none 0 0, .slice none 0 0]) Tryz.underlying164 Tryz.infoP rfl (by decide) (by decide) HOd.out HZ.out HBd.out.size (by rw [HLJ.out]; omega)
      rw [HLJ.out] at HRUN HO2 HGr
      have HB2 := hid (HBd.out.trans (HOd.out.bel HGr.out (Nat.le_refl _) HBd.out.size))
      have BX2 := hid (BX.out.kept HB2.out)
      have BP2 : Hid (Blk x1 p 39 #[.int .u64 x.n, .slice ba x.b.length bc, .slice ma x.ms.length mc]) := hid ((BP.out.kept (below_drew1 _)).keep (Keep.ofGrow (f := fun q => (Value.slice oa j oc).ownBlock ≠ some q) HGr.out (fun _ hk => hk)) (fun e => Nat.lt_irrefl _ (HPS.out _ e)))
      have p0 : w1.cell? ⟨p, 0, none⟩ = some (.int .u64 x.n) := BP.out.cell 0 _ rfl
      have p1 : w1.cell? ⟨p, 1, none⟩ = some (.slice ba x.b.length bc) := BP.out.cell 1 _ rfl
      have p2 : w1.cell? ⟨p, 2, none⟩ = some (.slice ma x.ms.length mc) := BP.out.cell 2 _ rfl
      have q0 : w1.cell? ⟨w.heap.size, 2, none⟩ = some (.slice (some ⟨b2, o2, none⟩) f.vs.length vc) := BX1.out.cell 2 _ rfl
      have zp := BP.out.lt
      clear xx zx c0 c1 c2
      go_region_held3 (fun W => W.cell? ⟨p, 0, none⟩ = some (.int .u64 x.n) ∧ W.cell? ⟨p, 1, none⟩ = some (.slice ba x.b.length bc) ∧ W.cell? ⟨p, 2, none⟩ = some (.slice ma x.ms.length mc) ∧ W.cell? ⟨w.heap.size, 2, none⟩ = some (.slice (some ⟨b2, o2, none⟩) f.vs.length vc) ∧ W.cell? ⟨b2, o2 + j * 3, none⟩ = some (.int .u64 y.n) ∧ W.cell? ⟨b2, o2 + j * 3 + 1, none⟩ = some (.slice da y.b.length dc) ∧ W.cell? ⟨b2, o2 + j * 3 + 2, none⟩ = some (.slice na y.ms.length nc)) (first | exact ⟨p0, p1, p2, q0, d0, d1, d2⟩ | exact ⟨BP2.out.cell 0 _ rfl, BP2.out.cell 1 _ rfl, BP2.out.cell 2 _ rfl, BX2.out.cell 2 _ rfl, cell_below D0.out HB2.out, cell_below D1.out HB2.out, cell_below D2.out HB2.out⟩ | exact ⟨cell_below p0 (by exact blBy), cell_below p1 (by exact blBy), cell_below p2 (by exact blBy), cell_below q0 (by exact blBy), cell_below d0 (by exact blBy), cell_below d1 (by exact blBy), cell_below d2 (by exact blBy)⟩) (first | (refine step_append_ran rfl _ _ 164 164 rfl rfl _ _ (.slice la (j + 1) lc) x1 rfl rfl HRUN.out ?_))
      go_wp2
      exact ⟨⟨j + 1, la, lc, rfl, by simp, by omega, hid (by rw [HTK.out]; exact HO2.out), HB2⟩, by simp [numAt]; omega⟩
    · have k2 : ¬ (j : Int) < (f.ks.length : Int) := by omega
      obtain rfl : j = f.ks.length := by omega
      have e1 : (prs f).take f.ks.length = prs f := List.take_of_length_le (by rw [HL.out]; omega)
      rw [e1] at HO
      have hfin : Below w.heap.size w wr := Below.trans HB0.out ⟨HB.out.os, HB.out.tape, HB.out.output, HB.out.size, fun b hb => HB.out.block b (by omega)⟩
      go_wp2
      go_ret
      exact ⟨oa, oc, rfl, PrsR.go (HO.out.row (famP d) (by rw [HL.out]; omega)) (Keep.refl (fun _ => True) wr) (fun _ _ => trivial) (fun b hz => hz.elim Or.inl (fun h => Or.inr (by omega))), hfin⟩
theorem compareX {w : World} {Z : Nat → Prop} {d : Nat} (k : Int) {a b : CV CM} {ba bc ma mc : _} {ba' bc' ma' mc' : _} (h1 : FmV d w Z [.int .u64 a.n, .slice ba a.b.length bc, .slice ma a.ms.length mc] a) (h2 : FmV d w Z [.int .u64 b.n, .slice ba' b.b.length bc', .slice ma' b.ms.length mc'] b) : Calls Tryz.prog 98 #[.int .i64 k, .agg #[.int .u64 a.n, .slice ba a.b.length bc, .slice ma a.ms.length mc], .agg #[.int .u64 b.n, .slice ba' b.b.length bc', .slice ma' b.ms.length mc']] w fun e w' => (∃ er, e = .returned (.tuple #[.int .i64 (cmpE k a.n b.n a.b b.b a.ms.length b.ms.length).1, .int .i64 er])) ∧ Below w.heap.size w w' := by
  obtain ⟨_, _, _, _, e1, g1, -, l1, l2, u1⟩ := val_open h1
  obtain ⟨_, _, _, _, e2, g2, -, l3, l4, u2⟩ := val_open h2
  simp only [List.cons.injEq, Value.slice.injEq, true_and, and_true] at e1 e2
  obtain ⟨⟨rfl, rfl⟩, rfl, rfl⟩ := e1
  obtain ⟨⟨rfl, rfl⟩, rfl, rfl⟩ := e2
  exact (compareW k a.n b.n _ _ _ _ _ _ _ _ _ _ _ _ a.b b.b w u1.1 u1.2 u2.1 u2.2 g1.reads g2.reads (by omega) (by omega)).mono fun e w' h => ⟨⟨_, h.1⟩, h.2⟩
theorem keyT (d : Nat) (w : World) (Z : Nat → Prop) (cs ds : List Value) (x y : CV CM × CV CM) (h : FmP d w Z cs x) (g : FmP d w Z ds y) (f : FT) (p : Nat) (hp : Blk w p 64 #[.string (strOfNums f.name), .int .i64 f.num, .int .i64 f.kind, .int .i64 f.ref, .int .i64 f.lab, .int .i64 f.one, .int .i64 f.key]) : Calls Tryz.prog 97 #[.agg cs.toArray, .agg ds.toArray, .pointer (some ⟨p, 0, none⟩)] w fun e w' => e = .returned (.int .i64 (kOrd f.key x y)) ∧ Below w.heap.size w w' := by
  obtain ⟨ba, bc, ma, mc, da, dc, na, nc, rfl, h1, -⟩ := prs_open h
  obtain ⟨ba', bc', ma', mc', da', dc', na', nc', rfl, g1, -⟩ := prs_open g
  have H1 := hid h1
  have G1 := hid g1
  have xp := hp.cellF
  have zp := hp.lt
  clear h g h1 g1 hp
  go_enter Tryz.func97, Tryz.ntmps97
  go_wp2_with (go_at_call 98; refine (compareX f.key (ValE.kept H1.out (by exact blBy)) (ValE.kept G1.out (by exact blBy))).mono ?_; rintro e w1 ⟨⟨er, rfl⟩, hbx⟩; have HBX : Hid (Below w.heap.size w w1) := hid (bl_then (by exact blBy) hbx); clear hbx)
  go_ret
  exact ⟨rfl, HBX.out⟩
theorem sndT (d : Nat) (w : World) (Z : Nat → Prop) (cs ds : List Value) (x y : CV CM × CV CM) (h : FmP d w Z cs x) (g : FmP d w Z ds y) : Calls Tryz.prog 101 #[.agg cs.toArray, .agg ds.toArray] w fun e w' => e = .returned (.agg ds.toArray) ∧ Below w.heap.size w w' := by
  obtain ⟨ba, bc, ma, mc, da, dc, na, nc, rfl, -⟩ := prs_open h
  obtain ⟨ba', bc', ma', mc', da', dc', na', nc', rfl, -⟩ := prs_open g
  clear h g
  go_enter Tryz.func101, Tryz.ntmps101
  go_wp2
  exact bodyPost_ret (v := .agg #[.int .u64 y.1.n, .slice ba' y.1.b.length bc', .slice ma' y.1.ms.length mc', .int .u64 y.2.n, .slice da' y.2.b.length dc', .slice na' y.2.ms.length nc']) (by simp [results, Tryz.results101, go_sem]) rfl ⟨rfl, by exact blBy⟩
section
variable {P : Program} {ops : Array Oper} {Q : Exit → Act → World → Prop} {md : Region.Mode} {S : Array Bool → World → Prop}
/-- Whatever order is picked from here on; S holds behind each operation, of what has come up by then. -/
def wpAnyL (P : Program) (md : Region.Mode) (ops : Array Oper) (Q : Exit → Act → World → Prop) (S : Array Bool → World → Prop) : Nat → Array Bool → Act → World → Prop
  | 0, l, a, w => Region.ready md ops l = [] ∧ Q .normal a w
  | n + 1, l, a, w => (Region.ready md ops l = [] → Q .normal a w) ∧ ∀ i ∈ Region.ready md ops l, wpOp P ops Q i (fun a' w' => S (l.setIfInBounds i true) w' ∧ wpAnyL P md ops Q S n (l.setIfInBounds i true) a' w') a w
theorem wpAny_of_L : ∀ (n : Nat) (l : Array Bool) (a : Act) (w : World), wpAnyL P md ops Q S n l a w → wpAny P md ops Q n l a w
  | 0, _, _, _, h => h
  | n + 1, _, _, _, h => ⟨h.1, fun i hi => wpOp_mono (fun a' w' g => wpAny_of_L n _ a' w' g.2) (h.2 i hi)⟩
theorem wpAnyL_first {T : World → Prop} {R : Array Bool → Prop} {i : Nat} {oi : Oper} {v : Value} (hi : ops[i]? = some oi) (hsel : ∀ (j : Nat) (o : Oper) cs b, ops[j]? = some o → o.op ≠ .select cs b)
    (hQ : ∀ c a w, Q (.panic c) (a.put oi.dst v) w → Q (.panic c) a w) (hSi : ∀ l w, S (l.setIfInBounds i true) w → S l w) (hST : ∀ l w, R l → S l w → T w)
    (hR : ∀ j l, j ≠ i → i ∈ Region.ready md ops l → j ∈ Region.ready md ops l → R l → R (l.setIfInBounds j true)) :
    ∀ (n : Nat) (l : Array Bool) (a : Act) (w : World),
      (∀ j oj, ops[j]? = some oj → j ≠ i → l.getD j true = false → (∀ e ∈ oj.after, Region.binds md e = true → e.on ≠ i) → oi.apart ops oj = true) →
      i ∈ Region.ready md ops l → R l → YieldsIf P ops T oi v a → S l w → S (l.setIfInBounds i true) w →
      wpAnyL P md ops Q S n (l.setIfInBounds i true) (a.put oi.dst v) w → wpAnyL P md ops Q S (n + 1) l a w := by
  intro n
  induction n with
  | zero =>
    intro l a w _ hr hRl hy hS hS2 H
    refine ⟨fun h => (by rw [h] at hr; cases hr), fun j hj => ?_⟩
    by_cases hji : j = i
    · subst hji
      exact hy.wpOp hi (hST l w hRl hS) ⟨hS2, H⟩
    · have := ready_mono hj hji
      rw [H.1] at this
      cases this
  | succ n ih =>
    intro l a w hfree hr hRl hy hS hS2 H
    refine ⟨fun h => (by rw [h] at hr; cases hr), fun j hj => ?_⟩
    by_cases hji : j = i
    · subst hji
      exact hy.wpOp hi (hST l w hRl hS) ⟨hS2, H⟩
    · have h1 := H.2 j (ready_mono hj hji)
      obtain ⟨hjun, oj, hoj, hall⟩ := mem_ready.1 hj
      have hnot : ∀ e ∈ oj.after, Region.binds md e = true → e.on ≠ i := fun e he hb heq => by
        have g1 := hall e he hb
        have g0 := (mem_ready.1 hr).1
        rw [heq] at g1
        rcases Nat.lt_or_ge i l.size with h' | h'
        · simp [h'] at g0 g1
          rw [g0] at g1
          cases g1
        · simp [Array.getElem?_eq_none h'] at g1
      have h2 := wpOp_putIf hoj (hfree j oj hoj hji hjun hnot) (fun cs b => hsel i oi cs b hi) (fun cs b => hsel j oj cs b hoj) hQ hy h1
      have hfree' : ∀ k ok, ops[k]? = some ok → k ≠ i → (l.setIfInBounds j true).getD k true = false → (∀ e ∈ ok.after, Region.binds md e = true → e.on ≠ i) → oi.apart ops ok = true := fun k ok hk hki hun hno => by
        refine hfree k ok hk hki ?_ hno
        by_cases hjk : j = k
        · subst hjk
          exact hjun
        · rw [getD_set_ne true hjk] at hun
          exact hun
      refine wpOp_mono (fun a' w' h3 => ?_) h2
      have e : (l.setIfInBounds i true).setIfInBounds j true = (l.setIfInBounds j true).setIfInBounds i true := by rw [Array.setIfInBounds_comm _ _ (Ne.symm hji)]
      rw [e] at h3
      have s2 := hSi _ _ h3.2.1
      exact ⟨s2, ih (l.setIfInBounds j true) a' w' hfree' (ready_mono hr (Ne.symm hji)) (hR j l hji hr hj hRl) h3.1 s2 h3.2.1 h3.2.2⟩
/-- S1 is asked until the operation k has come up. -/
def SL (S0 S1 : World → Prop) (k : Nat) (l : Array Bool) (w : World) : Prop := S0 w ∧ (l.getD k true = false → S1 w)
variable {S0 S1 : World → Prop} {k : Nat}
theorem SL.of {l : Array Bool} {w : World} (h0 : S0 w) (h1 : S1 w) : SL S0 S1 k l w := ⟨h0, fun _ => h1⟩
theorem SL.late {l : Array Bool} {w : World} (h0 : S0 w) (h1 : l.getD k true = true) : SL S0 S1 k l w := ⟨h0, fun h => by rw [h1] at h; cases h⟩
theorem SL.back {i : Nat} (h : i ≠ k) (l : Array Bool) (w : World) : SL S0 S1 k (l.setIfInBounds i true) w ↔ SL S0 S1 k l w := by
  unfold SL
  rw [getD_set_ne true h]
/-- Taken first: it yields wherever S0 holds. -/
theorem takeL0 (i : Nat) {oi : Oper} {v : Value} {n : Nat} {l : Array Bool} {a : Act} {w : World} (hi : ops[i]? = some oi) (hs : Region.noSelect ops = true) (hf : Region.free md ops l i = true) (hr : (Region.ready md ops l).contains i = true)
    (hQ : ∀ c a w, Q (.panic c) (a.put oi.dst v) w → Q (.panic c) a w) (hik : (i != k) = true) (hy : YieldsIf P ops S0 oi v a) (hS : SL S0 S1 k l w)
    (h : SL S0 S1 k (l.setIfInBounds i true) w → wpAnyL P md ops Q (SL S0 S1 k) n (l.setIfInBounds i true) (a.put oi.dst v) w) : wpAnyL P md ops Q (SL S0 S1 k) (n + 1) l a w := by
  have hk : i ≠ k := by simpa using hik
  have s2 := (SL.back (S0 := S0) (S1 := S1) hk l w).2 hS
  exact wpAnyL_first (T := S0) (R := fun _ => True) hi (Region.noSelect_spec hs) hQ (fun l w => (SL.back hk l w).1) (fun _ _ _ h => h.1) (fun _ _ _ _ _ _ => trivial) n l a w (Region.free_spec hi hf) (by simpa using hr) trivial hy hS s2 (h s2)
/-- Taken first: it yields wherever S0 and S1 hold; the operation k waits for it. -/
theorem takeL1 (i : Nat) {oi ok : Oper} {v : Value} {n : Nat} {l : Array Bool} {a : Act} {w : World} (hi : ops[i]? = some oi) (hk : ops[k]? = some ok) (hke : ok.after.any (fun e => Region.binds md e && e.on == i) = true) (hl : l.getD k true = false) (hs : Region.noSelect ops = true) (hf : Region.free md ops l i = true) (hr : (Region.ready md ops l).contains i = true)
    (hQ : ∀ c a w, Q (.panic c) (a.put oi.dst v) w → Q (.panic c) a w) (hik : (i != k) = true) (hy : YieldsIf P ops (fun w => S0 w ∧ S1 w) oi v a) (hS : SL S0 S1 k l w)
    (h : SL S0 S1 k (l.setIfInBounds i true) w → wpAnyL P md ops Q (SL S0 S1 k) n (l.setIfInBounds i true) (a.put oi.dst v) w) : wpAnyL P md ops Q (SL S0 S1 k) (n + 1) l a w := by
  have hk' : i ≠ k := by simpa using hik
  have s2 := (SL.back (S0 := S0) (S1 := S1) hk' l w).2 hS
  refine wpAnyL_first (T := fun w => S0 w ∧ S1 w) (R := fun l => l.getD k true = false) hi (Region.noSelect_spec hs) hQ (fun l w => (SL.back hk' l w).1) (fun _ _ g h => ⟨h.1, h.2 g⟩) ?_ n l a w (Region.free_spec hi hf) (by simpa using hr) hl hy hS s2 (h s2)
  intro j l hji hri hrj hRl
  by_cases hjk : j = k
  · subst hjk
    obtain ⟨e, he, hb⟩ := Array.any_eq_true'.1 hke
    simp only [Bool.and_eq_true, beq_iff_eq] at hb
    obtain ⟨-, o, ho, hall⟩ := mem_ready.1 hrj
    rw [hk] at ho
    cases ho
    have g1 := hall e he hb.1
    rw [hb.2] at g1
    have g0 := (mem_ready.1 hri).1
    rcases Nat.lt_or_ge i l.size with h' | h'
    · simp [h'] at g0 g1
      rw [g0] at g1
      cases g1
    · simp [Array.getElem?_eq_none h'] at g1
  · rw [getD_set_ne true hjk]
    exact hRl
def AllReadyL (P : Program) (md : Region.Mode) (ops : Array Oper) (Q : Exit → Act → World → Prop) (S : Array Bool → World → Prop) (n : Nat) (l : Array Bool) (a : Act) (w : World) (rs : List Nat) : Prop :=
  ∀ i ∈ rs, wpOp P ops Q i (fun a' w' => S (l.setIfInBounds i true) w' ∧ wpAnyL P md ops Q S n (l.setIfInBounds i true) a' w') a w
theorem AllReadyL.nil {n : Nat} {l : Array Bool} {a : Act} {w : World} : AllReadyL P md ops Q S n l a w [] := fun _ h => by cases h
theorem AllReadyL.cons {n : Nat} {l : Array Bool} {a : Act} {w : World} {i : Nat} {o : Oper} {rs : List Nat} (ho : ops[i]? = some o)
    (h : ∀ K' : Act → World → Prop, Shut (∀ a w, S (l.setIfInBounds i true) w → (S (l.setIfInBounds i true) w → wpAnyL P md ops Q S n (l.setIfInBounds i true) a w) → K' a w) → if Region.wanted o (yielded ops a.tmps) = true then Oper.wp P o a w K' Q else K' (a.put o.dst undef) w)
    (hs : AllReadyL P md ops Q S n l a w rs) : AllReadyL P md ops Q S n l a w (i :: rs) := fun j hj => by
  rcases List.mem_cons.1 hj with rfl | hj
  · exact wpOp_step ho (fun K' hK => h K' (fun a w hS hW => hK a w ⟨hS, hW hS⟩))
  · exact hs j hj
theorem wpAnyL_ready {rs : List Nat} {n : Nat} {l : Array Bool} {a : Act} {w : World} (hr : Region.ready md ops l = rs) (hne : rs ≠ []) (h : AllReadyL P md ops Q S n l a w rs) : wpAnyL P md ops Q S (n + 1) l a w := ⟨fun h0 => absurd (hr ▸ h0) hne, hr ▸ h⟩
theorem wpAnyL_done {l : Array Bool} {a : Act} {w : World} (hr : Region.ready md ops l = []) (h : Q .normal a w) : ∀ n, wpAnyL P md ops Q S n l a w
  | 0 => ⟨hr, h⟩
  | _ + 1 => ⟨fun _ => h, by rw [hr]; simp⟩
theorem wp_regionL {id : Nat} {a : Act} {w : World} (hm : P.follows .mixedOrders = true) (hS : S (Array.replicate ops.size false) w.drew) (h : S (Array.replicate ops.size false) w.drew → wpAnyL P .any ops Q S ops.size (Array.replicate ops.size false) a w.drew) : (Code.region id ops true).wp P Q a w := wp_region_any hm (wpAny_of_L _ _ _ _ (h hS))
end
/-- A row of one's own from the block N on; what its structs hold lies in the blocks Y. -/
def OwnY {α : Type} (w : World) (N : Nat) (Y : Nat → Prop) (t : TypeId) (k : Nat) (E : World → (Nat → Prop) → List Value → α → Prop) (v : Value) (xs : List α) : Prop :=
  ∃ ts : List (Tup k), w.ownsRow N t k v xs.length (ts.flatMap Subtype.val) ∧ ts.length = xs.length ∧ ∀ (i : Nat) (t : Tup k) (x : α), ts[i]? = some t → xs[i]? = some x → E w Y t.1 x
theorem OwnY.nil {α : Type} (w : World) (N : Nat) (Y : Nat → Prop) (t : TypeId) (k : Nat) (E : World → (Nat → Prop) → List Value → α → Prop) : OwnY w N Y t k E (.slice none 0 0) [] := ⟨[], World.ownsRow_nil _ _ _ _, rfl, fun i t x ht => by simp at ht⟩
theorem OwnY.own {α : Type} {w : World} {N : Nat} {Y : Nat → Prop} {t : TypeId} {k : Nat} {E : World → (Nat → Prop) → List Value → α → Prop} {v : Value} {xs : List α} (h : OwnY w N Y t k E v xs) {b : Nat} (hb : v.ownBlock = some b) : N ≤ b ∧ b < w.heap.size := by
  obtain ⟨ts, h1, _⟩ := h
  have := own_type h1 hb
  exact ⟨this.1, this.2.1⟩
theorem OwnY.keep {α : Type} {f : Nat → Prop} {w w' : World} {N : Nat} {Y : Nat → Prop} {t : TypeId} {k : Nat} {E : World → (Nat → Prop) → List Value → α → Prop} (F : Fam k E) {v : Value} {xs : List α} (h : OwnY w N Y t k E v xs) (g : Keep f w w') (hY : ∀ b, Y b → f b) (hv : ∀ b, v.ownBlock = some b → f b) : OwnY w' N Y t k E v xs := by
  obtain ⟨ts, h1, h2, h3⟩ := h
  exact ⟨ts, own_keep h1 hv g, h2, fun i t x ht hx => F.go (h3 i t x ht hx) g hY (fun _ h => h)⟩
theorem OwnY.kept {α : Type} {w w' : World} {N : Nat} {Y : Nat → Prop} {t : TypeId} {k : Nat} {E : World → (Nat → Prop) → List Value → α → Prop} (F : Fam k E) {v : Value} {xs : List α} (h : OwnY w N Y t k E v xs) (g : Below w.heap.size w w') : OwnY w' N Y t k E v xs := h.keep F (keepT g) (fun _ _ => trivial) (fun _ _ => trivial)
theorem OwnY.row {α : Type} {w : World} {N : Nat} {Y : Nat → Prop} {t : TypeId} {k : Nat} {E : World → (Nat → Prop) → List Value → α → Prop} (F : Fam k E) {v : Value} {xs : List α} (h : OwnY w N Y t k E v xs) (hn : xs.length ≤ 4000000) : RowM w (fun b => Y b ∨ N ≤ b) k (E w (fun b => Y b ∨ N ≤ b)) v xs := by
  obtain ⟨ts, h1, h2, h3⟩ := h
  exact ⟨ts, own_row h1 (fun b hb => Or.inr (own_type h1 hb).1), h2, hn, fun i t x ht hx => F.go (h3 i t x ht hx) (Keep.refl (fun _ => True) w) (fun _ _ => trivial) (fun b hz => Or.inl hz)⟩
/-- One struct more, out of a block of its own. -/
theorem OwnY.one {α : Type} {k : Nat} {E : World → (Nat → Prop) → List Value → α → Prop} (F : Fam k E) (t ts : TypeId) (bytes : Nat) (z : Value) (hts : Tryz.prog.underlying ts = some (.slice t)) (hinfo : (Tryz.prog.info? t).map (fun i => (i.zero, i.size, i.bytes)) = some (some z, k, bytes)) (hzs : z.cells.size = k) (h0 : 0 < k) (hby : bytes ≤ 400)
    {N : Nat} {Y : Nat → Prop} {v : Value} {xs : List α} {w : World} {cs : List Value} {x : α} {vb : Nat} (h : OwnY w N Y t k E v xs) (hx : E w Y cs x) (hv : Blk w vb t cs.toArray) (hb : N ≤ w.heap.size) (hY : ∀ b, Y b → b < N) (hn : xs.length + 1 ≤ 4000000) :
    ∃ a c w', Hid ((Builtin.append_ #[ts, ts] ts #[v, .slice (some ⟨vb, 0, none⟩) 1 1]).run Tryz.prog w = .ok (.slice a (xs.length + 1) c) w') ∧ Hid (OwnY w' N Y t k E (.slice a (xs.length + 1) c) (xs ++ [x])) ∧ Hid (Grow w w' v (.slice a (xs.length + 1) c)) := by
  obtain ⟨us, h1, h2, h3⟩ := h
  obtain ⟨i0, hi, hz0, hz1, hz2⟩ := info_parts hinfo
  obtain ⟨v', w', r1, r2, r3⟩ := run_append_mine (P := Tryz.prog) w N ts ts t i0 z k bytes hts hi hz0 hz1 hz2 hzs h0 v xs.length (us.flatMap Subtype.val) h1 ⟨vb, 0, none⟩ 1 1 cs (by rw [F.len hx]; omega) (fun j u hu => by
    have := hv.cell j u (by simpa using hu)
    by_cases hj : j = 0
    · subst hj
      simpa [Addr.add] using this
    · simpa [Addr.add, hj] using this) (F.one hx) (by unfold maxLen; omega) (Nat.le_trans (Nat.mul_le_mul hn hby) (by decide)) hb
  obtain ⟨a, c, rfl⟩ := own_shape r2
  have hk : Keep (fun b => v.ownBlock ≠ some b) w w' := Keep.ofGrow r3 (fun _ hk => hk)
  have hf : ∀ b, Y b → v.ownBlock ≠ some b := fun b hb e => by
    have := (own_type h1 e).1
    have := hY b hb
    omega
  refine ⟨a, c, w', hid r1, hid ⟨us ++ [⟨cs, F.len hx⟩], ?_, by simp [h2], ?_⟩, hid r3⟩
  · rw [List.length_append, List.flatMap_append]
    simpa using r2
  · intro i u y hu hy
    by_cases hi : i < us.length
    · rw [List.getElem?_append_left hi] at hu
      rw [List.getElem?_append_left (by omega)] at hy
      exact F.go (h3 i u y hu hy) hk hf (fun _ h => h)
    · have ei : i = us.length := by
        have := (List.getElem?_eq_some_iff.1 hu).1
        simp at this
        omega
      subst ei
      rw [List.getElem?_append_right (Nat.le_refl _), Nat.sub_self] at hu
      rw [h2, List.getElem?_append_right (Nat.le_refl _), Nat.sub_self] at hy
      simp at hu hy
      subst hu hy
      exact F.go hx hk hf (fun _ h => h)
theorem cellKp {f : Nat → Prop} {w w' : World} {b o : Nat} {v : Value} (h : w.cell? ⟨b, o, none⟩ = some v) (hb : Keep f w w') (hf : f b) : w'.cell? ⟨b, o, none⟩ = some v := by
  have hl := World.block_lt_of_cell? w _ h
  have e := hb.block b hl hf
  rw [← h]
  unfold World.cell?
  simp [e]
end Go.Proofs.YtmfaabedfdppcaaGreatDoor
