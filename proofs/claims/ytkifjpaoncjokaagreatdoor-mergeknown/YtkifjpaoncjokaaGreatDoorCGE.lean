/-
  The pairs of a field; both maps.
  Pairs in order; the second of two.
  Rows of one's own beside each other, whose structs hold other memory.
-/
import Derived.Test.YtkifjpaoncjokaaGreatDoorCCA
import Derived.Test.YtkifjpaoncjokaaGreatDoorCAO
import Derived.Test.YtkifjpaoncjokaaGreatDoorCAA
import Derived.Test.YtkifjpaoncjokaaGreatDoorCBN
namespace Go.Proofs.YtkifjpaoncjokaaGreatDoor
open Go.RowKit
set_option maxRecDepth 1000000
set_option linter.unusedVariables false
set_option linter.unusedSimpArgs false
set_option maxHeartbeats 4000000
theorem prs_len {f : CF CM} (h : f.ks.length ≤ f.vs.length) : (prs f).length = f.ks.length := by unfold prs; rw [List.length_zip]; omega
theorem prs_get {f : CF CM} {j : Nat} (h1 : j < f.ks.length) (h2 : j < f.vs.length) : (prs f).take (j + 1) = (prs f).take j ++ [(f.ks[j], f.vs[j])] := by
  have hl : j < (prs f).length := by unfold prs; rw [List.length_zip]; omega
  rw [List.take_succ_eq_append_getElem hl]
  congr 2
  simp [prs, List.getElem_zip]
theorem pairsT (d : Nat) (w : World) (Z : Nat → Prop) (cs : List Value) (f : CF CM) (h : FmF d w Z cs f) (hl : f.ks.length ≤ f.vs.length) : Calls Tryz.prog 107 #[.agg cs.toArray] w fun e w' => ∃ a c, e = .returned (.slice a f.ks.length c) ∧ PrsR w' (fun b => Z b ∨ w.heap.size ≤ b) d (.slice a f.ks.length c) (prs f) ∧ Below w.heap.size w w' := by
  obtain ⟨ka, kc, va, vc, rfl, g1, g2, -⟩ := fld_open h
  obtain ⟨_, _, -, l1⟩ := RowM.sl g1
  obtain ⟨_, _, -, l2⟩ := RowM.sl g2
  have m1 : (f.ks.length : Int) ≤ 9223372036854775807 := by omega
  have m2 : (f.vs.length : Int) ≤ 9223372036854775807 := by omega
  have HL := hid (prs_len hl)
  have HG1 := hid fun W (hW : Below w.heap.size w W) => VlsR.kept g1 hW
  have HG2 := hid fun W (hW : Below w.heap.size w W) => VlsR.kept g2 hW
  clear h g1 g2
  go_enter Tryz.func107, Tryz.ntmps107
  go_wp2
  generalize hw0 : w.alloc _ = w0
  have HB0 : Hid (Below w.heap.size w w0) := hid (hw0 ▸ below_alloc _)
  have BX : Hid (Blk w0 w.heap.size 33 #[.int .i64 f.num, .slice ka f.ks.length kc, .slice va f.vs.length vc]) := hid (hw0 ▸ Blk.new _ _ _)
  have HS0 : w0.heap.size = w.heap.size + 1 := by rw [← hw0]; simp
  clear hw0
  go_loopw [3, 9] (fun s3 s9 wr => ∃ (j : Nat) (oa : Option Addr) (oc : Nat), s3 = .slice oa j oc ∧ s9 = .int .i64 (j : Int) ∧ j ≤ f.ks.length ∧ Hid (OwnA wr w0.heap.size Z 166 6 (FmP d) (.slice oa j oc) ((prs f).take j)) ∧ Hid (Below w0.heap.size w0 wr)) (fun s3 s9 wr => f.ks.length - numAt wr s9)
  case atStart => exact ⟨0, none, 0, rfl, rfl, by omega, hid (OwnA.nil _ _ _ _ _ _), hid (Below.refl _ _)⟩
  case round =>
    obtain ⟨j, oa, oc, rfl, rfl, hj, HO, HB⟩ := hrel
    by_cases hlt : j < f.ks.length
    · have k2 : (j : Int) < (f.ks.length : Int) := by omega
      have hlv : j < f.vs.length := by omega
      have k3 : (j : Int) < (f.vs.length : Int) := by omega
      obtain ⟨b1, o1, ba, bc, ma, mc, rfl, -, hb1, c0, c1, c2, he⟩ := vls_at (HG1.out _ HB0.out) hlt
      obtain ⟨b2, o2, da, dc, na, nc, rfl, -, hb2, d0, d1, d2, hg⟩ := vls_at (HG2.out _ HB0.out) hlv
      have HTK := hid (prs_get hlt hlv)
      have HP : Hid (FmP d w0 Z [.int .u64 f.ks[j].n, .slice ba f.ks[j].b.length bc, .slice ma f.ks[j].ms.length mc, .int .u64 f.vs[j].n, .slice da f.vs[j].b.length dc, .slice na f.vs[j].ms.length nc] (f.ks[j], f.vs[j])) := hid ⟨_, _, rfl, he, hg⟩
      have BX1 := hid (BX.out.kept HB.out)
      have D0 := hid d0
      have D1 := hid d1
      have D2 := hid d2
      replace c0 := cell_below c0 HB.out
      replace c1 := cell_below c1 HB.out
      replace c2 := cell_below c2 HB.out
      replace d0 := cell_below d0 HB.out
      replace d1 := cell_below d1 HB.out
      replace d2 := cell_below d2 HB.out
      have xx := BX1.out.cellF
      have zx := BX1.out.lt
      clear he hg
      generalize f.ks[j] = x at *
      generalize f.vs[j] = y at *
      go_wp2_with fail
      generalize hw1 : wr.alloc _ = w1
      have HBa : Hid (Below wr.heap.size wr w1) := hid (hw1 ▸ below_alloc _)
      have BP : Hid (Blk w1 wr.heap.size 39 #[.int .u64 x.n, .slice ba x.b.length bc, .slice ma x.ms.length mc]) := hid (hw1 ▸ Blk.new _ _ _)
      have HPS : Hid (∀ q, (Value.slice oa j oc).ownBlock = some q → q < wr.heap.size) := hid fun q e => (HO.out.own e).2
      clear hw1
      replace d0 := cell_below d0 HBa.out
      replace d1 := cell_below d1 HBa.out
      replace d2 := cell_below d2 HBa.out
      replace BX1 := hid (BX1.out.kept HBa.out)
      replace HO := hid (HO.out.kept (famP d) HBa.out)
      replace HB := hid (below_trans HB.out HBa.out)
      generalize wr.heap.size = p at *
      have HLJ : Hid (((prs f).take j).length = j) := hid (by rw [List.length_take, HL.out]; omega)
      have HOd := hid (HO.out.kept (famP d) (below_drew1 w1))
      have HBd := hid (below_trans HB.out (below_drew1 _))
      have HZ := hid (zofA_old (famP d) HOd.out HP.out HBd.out)
      obtain ⟨la, lc, x1, HRUN, HO2, HGr⟩ := OwnA.push (famP d) 166 170 112 (.agg #[.int .u64 0, .slice none 0 0, .slice none 0 0, .int .u64 0, .slice none 0 0, .slice none 0 0]) Tryz.underlying170 Tryz.infoP rfl (by decide) (by decide) HOd.out HZ.out HBd.out.size (by rw [HLJ.out]; omega)
      rw [HLJ.out] at HRUN HO2 HGr
      have HB2 := hid (HBd.out.trans (HOd.out.bel HGr.out (Nat.le_refl _) HBd.out.size))
      have BX2 := hid (BX.out.kept HB2.out)
      have BP2 : Hid (Blk x1 p 39 #[.int .u64 x.n, .slice ba x.b.length bc, .slice ma x.ms.length mc]) := hid ((BP.out.kept (below_drew1 _)).keep (Keep.ofGrow (f := fun q => (Value.slice oa j oc).ownBlock ≠ some q) HGr.out (fun _ hk => hk)) (fun e => Nat.lt_irrefl _ (HPS.out _ e)))
      have p0 : w1.cell? ⟨p, 0, none⟩ = some (.int .u64 x.n) := BP.out.cell 0 _ rfl
      have p1 : w1.cell? ⟨p, 1, none⟩ = some (.slice ba x.b.length bc) := BP.out.cell 1 _ rfl
      have p2 : w1.cell? ⟨p, 2, none⟩ = some (.slice ma x.ms.length mc) := BP.out.cell 2 _ rfl
      have q0 : w1.cell? ⟨w.heap.size, 2, none⟩ = some (.slice (some ⟨b2, o2, none⟩) f.vs.length vc) := BX1.out.cell 2 _ rfl
      have zp := BP.out.lt
      clear xx zx c0 c1 c2
      go_region_held3 (fun W => W.cell? ⟨p, 0, none⟩ = some (.int .u64 x.n) ∧ W.cell? ⟨p, 1, none⟩ = some (.slice ba x.b.length bc) ∧ W.cell? ⟨p, 2, none⟩ = some (.slice ma x.ms.length mc) ∧ W.cell? ⟨w.heap.size, 2, none⟩ = some (.slice (some ⟨b2, o2, none⟩) f.vs.length vc) ∧ W.cell? ⟨b2, o2 + j * 3, none⟩ = some (.int .u64 y.n) ∧ W.cell? ⟨b2, o2 + j * 3 + 1, none⟩ = some (.slice da y.b.length dc) ∧ W.cell? ⟨b2, o2 + j * 3 + 2, none⟩ = some (.slice na y.ms.length nc)) (first | exact ⟨p0, p1, p2, q0, d0, d1, d2⟩ | exact ⟨BP2.out.cell 0 _ rfl, BP2.out.cell 1 _ rfl, BP2.out.cell 2 _ rfl, BX2.out.cell 2 _ rfl, cell_below D0.out HB2.out, cell_below D1.out HB2.out, cell_below D2.out HB2.out⟩ | exact ⟨cell_below p0 (by exact blBy), cell_below p1 (by exact blBy), cell_below p2 (by exact blBy), cell_below q0 (by exact blBy), cell_below d0 (by exact blBy), cell_below d1 (by exact blBy), cell_below d2 (by exact blBy)⟩) (first | (refine step_append_ran rfl _ _ 170 170 rfl rfl _ _ (.slice la (j + 1) lc) x1 rfl rfl HRUN.out ?_))
      go_wp2
      exact ⟨⟨j + 1, la, lc, rfl, by simp, by omega, hid (by rw [HTK.out]; exact HO2.out), HB2⟩, by simp [numAt]; omega⟩
    · have k2 : ¬ (j : Int) < (f.ks.length : Int) := by omega
      obtain rfl : j = f.ks.length := by omega
      have e1 : (prs f).take f.ks.length = prs f := List.take_of_length_le (by rw [HL.out]; omega)
      rw [e1] at HO
      have hfin : Below w.heap.size w wr := Below.trans HB0.out ⟨HB.out.os, HB.out.tape, HB.out.output, HB.out.size, fun b hb => HB.out.block b (by omega)⟩
      go_wp2
      go_ret
      exact ⟨oa, oc, rfl, PrsR.go (HO.out.row (famP d) (by rw [HL.out]; omega)) (Keep.refl (fun _ => True) wr) (fun _ _ => trivial) (fun b hz => hz.elim Or.inl (fun h => Or.inr (by omega))), hfin⟩
theorem compareX {w : World} {Z : Nat → Prop} {d : Nat} (k : Int) {a b : CV CM} {ba bc ma mc : _} {ba' bc' ma' mc' : _} (h1 : FmV d w Z [.int .u64 a.n, .slice ba a.b.length bc, .slice ma a.ms.length mc] a) (h2 : FmV d w Z [.int .u64 b.n, .slice ba' b.b.length bc', .slice ma' b.ms.length mc'] b) : Calls Tryz.prog 105 #[.int .i64 k, .agg #[.int .u64 a.n, .slice ba a.b.length bc, .slice ma a.ms.length mc], .agg #[.int .u64 b.n, .slice ba' b.b.length bc', .slice ma' b.ms.length mc']] w fun e w' => (∃ er, e = .returned (.tuple #[.int .i64 (cmpE k a.n b.n a.b b.b a.ms.length b.ms.length).1, .int .i64 er])) ∧ Below w.heap.size w w' := by
  obtain ⟨_, _, _, _, e1, g1, -, l1, l2, u1⟩ := val_open h1
  obtain ⟨_, _, _, _, e2, g2, -, l3, l4, u2⟩ := val_open h2
  simp only [List.cons.injEq, Value.slice.injEq, true_and, and_true] at e1 e2
  obtain ⟨⟨rfl, rfl⟩, rfl, rfl⟩ := e1
  obtain ⟨⟨rfl, rfl⟩, rfl, rfl⟩ := e2
  exact (compareW k a.n b.n _ _ _ _ _ _ _ _ _ _ _ _ a.b b.b w u1.1 u1.2 u2.1 u2.2 g1.reads g2.reads (by omega) (by omega)).mono fun e w' h => ⟨⟨_, h.1⟩, h.2⟩
theorem keyT (d : Nat) (w : World) (Z : Nat → Prop) (cs ds : List Value) (x y : CV CM × CV CM) (h : FmP d w Z cs x) (g : FmP d w Z ds y) (f : FT) (p : Nat) (hp : Blk w p 65 #[.string (strOfNums f.name), .int .i64 f.num, .int .i64 f.kind, .int .i64 f.ref, .int .i64 f.lab, .int .i64 f.one, .int .i64 f.key]) : Calls Tryz.prog 104 #[.agg cs.toArray, .agg ds.toArray, .pointer (some ⟨p, 0, none⟩)] w fun e w' => e = .returned (.int .i64 (kOrd f.key x y)) ∧ Below w.heap.size w w' := by
  obtain ⟨ba, bc, ma, mc, da, dc, na, nc, rfl, h1, -⟩ := prs_open h
  obtain ⟨ba', bc', ma', mc', da', dc', na', nc', rfl, g1, -⟩ := prs_open g
  have H1 := hid h1
  have G1 := hid g1
  have xp := hp.cellF
  have zp := hp.lt
  clear h g h1 g1 hp
  go_enter Tryz.func104, Tryz.ntmps104
  go_wp2_with (go_at_call 105; refine (compareX f.key (ValE.kept H1.out (by exact blBy)) (ValE.kept G1.out (by exact blBy))).mono ?_; rintro e w1 ⟨⟨er, rfl⟩, hbx⟩; have HBX : Hid (Below w.heap.size w w1) := hid (bl_then (by exact blBy) hbx); clear hbx)
  go_ret
  exact ⟨rfl, HBX.out⟩
theorem sndT (d : Nat) (w : World) (Z : Nat → Prop) (cs ds : List Value) (x y : CV CM × CV CM) (h : FmP d w Z cs x) (g : FmP d w Z ds y) : Calls Tryz.prog 108 #[.agg cs.toArray, .agg ds.toArray] w fun e w' => e = .returned (.agg ds.toArray) ∧ Below w.heap.size w w' := by
  obtain ⟨ba, bc, ma, mc, da, dc, na, nc, rfl, -⟩ := prs_open h
  obtain ⟨ba', bc', ma', mc', da', dc', na', nc', rfl, -⟩ := prs_open g
  clear h g
  go_enter Tryz.func108, Tryz.ntmps108
  go_wp2
  exact bodyPost_ret (v := .agg #[.int .u64 y.1.n, .slice ba' y.1.b.length bc', .slice ma' y.1.ms.length mc', .int .u64 y.2.n, .slice da' y.2.b.length dc', .slice na' y.2.ms.length nc']) (by simp [results, Tryz.results108, go_sem]) rfl ⟨rfl, by exact blBy⟩
/-- A row of one's own from the block N on; what its structs hold lies in the blocks Y. -/
def OwnY {α : Type} (w : World) (N : Nat) (Y : Nat → Prop) (t : TypeId) (k : Nat) (E : World → (Nat → Prop) → List Value → α → Prop) (v : Value) (xs : List α) : Prop :=
  ∃ ts : List (Tup k), w.ownsRow N t k v xs.length (ts.flatMap Subtype.val) ∧ ts.length = xs.length ∧ ∀ (i : Nat) (t : Tup k) (x : α), ts[i]? = some t → xs[i]? = some x → E w Y t.1 x
theorem OwnY.nil {α : Type} (w : World) (N : Nat) (Y : Nat → Prop) (t : TypeId) (k : Nat) (E : World → (Nat → Prop) → List Value → α → Prop) : OwnY w N Y t k E (.slice none 0 0) [] := ⟨[], World.ownsRow_nil _ _ _ _, rfl, fun i t x ht => by simp at ht⟩
theorem OwnY.own {α : Type} {w : World} {N : Nat} {Y : Nat → Prop} {t : TypeId} {k : Nat} {E : World → (Nat → Prop) → List Value → α → Prop} {v : Value} {xs : List α} (h : OwnY w N Y t k E v xs) {b : Nat} (hb : v.ownBlock = some b) : N ≤ b ∧ b < w.heap.size := by
  obtain ⟨ts, h1, _⟩ := h
  have := own_type h1 hb
  exact ⟨this.1, this.2.1⟩
theorem OwnY.keep {α : Type} {f : Nat → Prop} {w w' : World} {N : Nat} {Y : Nat → Prop} {t : TypeId} {k : Nat} {E : World → (Nat → Prop) → List Value → α → Prop} (F : Fam k E) {v : Value} {xs : List α} (h : OwnY w N Y t k E v xs) (g : Keep f w w') (hY : ∀ b, Y b → f b) (hv : ∀ b, v.ownBlock = some b → f b) : OwnY w' N Y t k E v xs := by
  obtain ⟨ts, h1, h2, h3⟩ := h
  exact ⟨ts, own_keep h1 hv g, h2, fun i t x ht hx => F.go (h3 i t x ht hx) g hY (fun _ h => h)⟩
theorem OwnY.kept {α : Type} {w w' : World} {N : Nat} {Y : Nat → Prop} {t : TypeId} {k : Nat} {E : World → (Nat → Prop) → List Value → α → Prop} (F : Fam k E) {v : Value} {xs : List α} (h : OwnY w N Y t k E v xs) (g : Below w.heap.size w w') : OwnY w' N Y t k E v xs := h.keep F (keepT g) (fun _ _ => trivial) (fun _ _ => trivial)
theorem OwnY.row {α : Type} {w : World} {N : Nat} {Y : Nat → Prop} {t : TypeId} {k : Nat} {E : World → (Nat → Prop) → List Value → α → Prop} (F : Fam k E) {v : Value} {xs : List α} (h : OwnY w N Y t k E v xs) (hn : xs.length ≤ 4000000) : RowM w (fun b => Y b ∨ N ≤ b) k (E w (fun b => Y b ∨ N ≤ b)) v xs := by
  obtain ⟨ts, h1, h2, h3⟩ := h
  exact ⟨ts, own_row h1 (fun b hb => Or.inr (own_type h1 hb).1), h2, hn, fun i t x ht hx => F.go (h3 i t x ht hx) (Keep.refl (fun _ => True) w) (fun _ _ => trivial) (fun b hz => Or.inl hz)⟩
/-- One struct more, out of a block of its own. -/
theorem OwnY.one {α : Type} {k : Nat} {E : World → (Nat → Prop) → List Value → α → Prop} (F : Fam k E) (t ts : TypeId) (bytes : Nat) (z : Value) (hts : Tryz.prog.underlying ts = some (.slice t)) (hinfo : (Tryz.prog.info? t).map (fun i => (i.zero, i.size, i.bytes)) = some (some z, k, bytes)) (hzs : z.cells.size = k) (h0 : 0 < k) (hby : bytes ≤ 400)
    {N : Nat} {Y : Nat → Prop} {v : Value} {xs : List α} {w : World} {cs : List Value} {x : α} {vb : Nat} (h : OwnY w N Y t k E v xs) (hx : E w Y cs x) (hv : Blk w vb t cs.toArray) (hb : N ≤ w.heap.size) (hY : ∀ b, Y b → b < N) (hn : xs.length + 1 ≤ 4000000) :
    ∃ a c w', Hid ((Builtin.append_ #[ts, ts] ts #[v, .slice (some ⟨vb, 0, none⟩) 1 1]).run Tryz.prog w = .ok (.slice a (xs.length + 1) c) w') ∧ Hid (OwnY w' N Y t k E (.slice a (xs.length + 1) c) (xs ++ [x])) ∧ Hid (Grow w w' v (.slice a (xs.length + 1) c)) := by
  obtain ⟨us, h1, h2, h3⟩ := h
  obtain ⟨i0, hi, hz0, hz1, hz2⟩ := info_parts hinfo
  obtain ⟨v', w', r1, r2, r3⟩ := run_append_mine (P := Tryz.prog) w N ts ts t i0 z k bytes hts hi hz0 hz1 hz2 hzs h0 v xs.length (us.flatMap Subtype.val) h1 ⟨vb, 0, none⟩ 1 1 cs (by rw [F.len hx]; omega) (fun j u hu => by
    have := hv.cell j u (by simpa using hu)
    by_cases hj : j = 0
    · subst hj
      simpa [Addr.add] using this
    · simpa [Addr.add, hj] using this) (F.one hx) (by unfold maxLen; omega) (Nat.le_trans (Nat.mul_le_mul hn hby) (by decide)) hb
  obtain ⟨a, c, rfl⟩ := own_shape r2
  have hk : Keep (fun b => v.ownBlock ≠ some b) w w' := Keep.ofGrow r3 (fun _ hk => hk)
  have hf : ∀ b, Y b → v.ownBlock ≠ some b := fun b hb e => by
    have := (own_type h1 e).1
    have := hY b hb
    omega
  refine ⟨a, c, w', hid r1, hid ⟨us ++ [⟨cs, F.len hx⟩], ?_, by simp [h2], ?_⟩, hid r3⟩
  · rw [List.length_append, List.flatMap_append]
    simpa using r2
  · intro i u y hu hy
    by_cases hi : i < us.length
    · rw [List.getElem?_append_left hi] at hu
      rw [List.getElem?_append_left (by omega)] at hy
      exact F.go (h3 i u y hu hy) hk hf (fun _ h => h)
    · have ei : i = us.length := by
        have := (List.getElem?_eq_some_iff.1 hu).1
        simp at this
        omega
      subst ei
      rw [List.getElem?_append_right (Nat.le_refl _), Nat.sub_self] at hu
      rw [h2, List.getElem?_append_right (Nat.le_refl _), Nat.sub_self] at hy
      simp at hu hy
      subst hu hy
      exact F.go hx hk hf (fun _ h => h)
theorem cellKp {f : Nat → Prop} {w w' : World} {b o : Nat} {v : Value} (h : w.cell? ⟨b, o, none⟩ = some v) (hb : Keep f w w') (hf : f b) : w'.cell? ⟨b, o, none⟩ = some v := by
  have hl := World.block_lt_of_cell? w _ h
  have e := hb.block b hl hf
  rw [← h]
  unfold World.cell?
  simp [e]
end Go.Proofs.YtkifjpaoncjokaaGreatDoor
