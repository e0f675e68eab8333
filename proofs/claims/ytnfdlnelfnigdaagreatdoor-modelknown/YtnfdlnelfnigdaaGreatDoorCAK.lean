/-
  Those of a list that are so; whether all are so; the first one that is so.
  Get, Clear: what the program answers.
  Depth, Get: what the document answers.
  Get: what the document answers.
  A field of a type, whole.
  A field that is typed.
  What a typed message holds, itself.
  Oneofs of a good table.
  What holds of bytes wherever they lie: rows that can be read, rows of one's own, appending to them. Nothing of the program's functions.
-/
import Derived.Test.YtnfdlnelfnigdaaGreatDoorCAB
import Derived.Test.YtnfdlnelfnigdaaGreatDoorCTY0
import Derived.Test.YtnfdlnelfnigdaaGreatDoorCAO
import Derived.Test.YtnfdlnelfnigdaaGreatDoorRows
import Derived.RowKit
import Derived.Laws.BytesArg
import Derived.WalkKit
import Derived.WalkSpells
import Derived.WalkLawsBesides
import Derived.Outline
import Derived.Below
import Derived.WalkMore
import Derived.Laws.MakeOwn
import Derived.OwnWalk
import Derived.Laws.AppendOwnNone
import Derived.OpenShut
namespace Go.Proofs.YtnfdlnelfnigdaaGreatDoor
open Go.RowKit
set_option maxRecDepth 1000000
set_option linter.unusedVariables false
set_option linter.unusedSimpArgs false
set_option maxHeartbeats 1000000
/-- Old memory, but for v's own block. -/
def ZofA (w : World) (Y : Nat → Prop) (v : Value) (b : Nat) : Prop := Y b ∧ b < w.heap.size ∧ v.ownBlock ≠ some b
/-- A row of one's own, each struct as E says, in other memory. -/
def OwnA {α : Type} (w : World) (base : Nat) (Y : Nat → Prop) (t : TypeId) (k : Nat) (E : World → (Nat → Prop) → List Value → α → Prop) (v : Value) (xs : List α) : Prop :=
  ∃ ts : List (Tup k), w.ownsRow base t k v xs.length (ts.flatMap Subtype.val) ∧ ts.length = xs.length ∧ ∀ (i : Nat) (t : Tup k) (x : α), ts[i]? = some t → xs[i]? = some x → E w (ZofA w Y v) t.1 x
theorem OwnA.nil {α : Type} (w : World) (base : Nat) (Y : Nat → Prop) (t : TypeId) (k : Nat) (E : World → (Nat → Prop) → List Value → α → Prop) : OwnA w base Y t k E (.slice none 0 0) [] := ⟨[], World.ownsRow_nil _ _ _ _, rfl, fun i t x ht => by simp at ht⟩
theorem OwnA.own {α : Type} {w : World} {base : Nat} {Y : Nat → Prop} {t : TypeId} {k : Nat} {E : World → (Nat → Prop) → List Value → α → Prop} {v : Value} {xs : List α} (h : OwnA w base Y t k E v xs) {b : Nat} (hb : v.ownBlock = some b) : base ≤ b ∧ b < w.heap.size := by
  obtain ⟨ts, h1, _⟩ := h
  have := own_type h1 hb
  exact ⟨this.1, this.2.1⟩
theorem OwnA.kept {α : Type} {w w' : World} {base : Nat} {Y : Nat → Prop} {t : TypeId} {k : Nat} {E : World → (Nat → Prop) → List Value → α → Prop} (F : Fam k E) {v : Value} {xs : List α} (h : OwnA w base Y t k E v xs) (hb : Below w.heap.size w w') : OwnA w' base Y t k E v xs := by
  obtain ⟨ts, h1, h2, h3⟩ := h
  exact ⟨ts, own_kept h1 hb, h2, fun i t x ht hx => F.go (h3 i t x ht hx) (keepT hb) (fun _ _ => trivial) (fun b hz => ⟨hz.1, Nat.lt_of_lt_of_le hz.2.1 hb.size, hz.2.2⟩)⟩
theorem OwnA.row {α : Type} {w : World} {base : Nat} {Y : Nat → Prop} {t : TypeId} {k : Nat} {E : World → (Nat → Prop) → List Value → α → Prop} (F : Fam k E) {v : Value} {xs : List α} (h : OwnA w base Y t k E v xs) (hn : xs.length ≤ 4000000) : RowM w (fun b => Y b ∨ base ≤ b) k (E w (fun b => Y b ∨ base ≤ b)) v xs := by
  obtain ⟨ts, h1, h2, h3⟩ := h
  exact ⟨ts, own_row h1 (fun b hb => Or.inr (own_type h1 hb).1), h2, hn, fun i t x ht hx => F.go (h3 i t x ht hx) (Keep.refl (fun _ => True) w) (fun _ _ => trivial) (fun b hz => Or.inl hz.1)⟩
/-- One struct more. -/
theorem OwnA.push {α : Type} {k : Nat} {E : World → (Nat → Prop) → List Value → α → Prop} (F : Fam k E) (t ts : TypeId) (bytes : Nat) (z : Value) (hts : Tryz.prog.underlying ts = some (.slice t)) (hinfo : (Tryz.prog.info? t).map (fun i => (i.zero, i.size, i.bytes)) = some (some z, k, bytes)) (hzs : z.cells.size = k) (h0 : 0 < k) (hby : bytes ≤ 400)
    {base : Nat} {Y : Nat → Prop} {v : Value} {xs : List α} {w : World} {cs : List Value} {x : α} (h : OwnA w base Y t k E v xs) (hx : E w (ZofA w Y v) cs x) (hb : base ≤ w.heap.size) (hn : xs.length ≤ 4000000) :
    ∃ a c w', Hid ((Builtin.append_ #[ts, ts] ts #[v, .slice (some ⟨w.heap.size, 0, none⟩) 1 1]).run Tryz.prog (w.alloc (.cells cs.toArray t)) = .ok (.slice a (xs.length + 1) c) w') ∧ Hid (OwnA w' base Y t k E (.slice a (xs.length + 1) c) (xs ++ [x])) ∧ Hid (Grow w w' v (.slice a (xs.length + 1) c)) := by
  obtain ⟨us, h1, h2, h3⟩ := h
  obtain ⟨v', w', r1, r2, r3⟩ := append_st t ts k bytes z hts hinfo hzs h0 hby base v xs.length (us.flatMap Subtype.val) w cs.toArray (by simp [F.len hx]) (by simpa using F.one hx) h1 hb hn
  obtain ⟨a, c, rfl⟩ := own_shape r2
  refine ⟨a, c, w', hid r1, hid ⟨us ++ [⟨cs, F.len hx⟩], ?_, by simp [h2], ?_⟩, hid r3⟩
  · rw [List.length_append, List.flatMap_append]
    simpa using r2
  · have hz : ∀ b, ZofA w Y v b → ZofA w' Y (.slice a (xs.length + 1) c) b := fun b hzb => by
      refine ⟨hzb.1, Nat.lt_of_lt_of_le hzb.2.1 r3.size, ?_⟩
      intro e
      rcases r3.own with q | q
      · rw [q] at e; exact hzb.2.2 e
      · have := q b e; have := hzb.2.1; omega
    have hk : Keep (fun b => v.ownBlock ≠ some b) w w' := Keep.ofGrow r3 (fun _ hk => hk)
    intro i u y hu hy
    by_cases hi : i < us.length
    · rw [List.getElem?_append_left hi] at hu
      rw [List.getElem?_append_left (by omega)] at hy
      exact F.go (h3 i u y hu hy) hk (fun b hz => hz.2.2) hz
    · have ei : i = us.length := by
        have := (List.getElem?_eq_some_iff.1 hu).1
        simp at this
        omega
      subst ei
      rw [List.getElem?_append_right (Nat.le_refl _), Nat.sub_self] at hu
      rw [h2, List.getElem?_append_right (Nat.le_refl _), Nat.sub_self] at hy
      simp at hu hy
      subst hu hy
      exact F.go hx hk (fun b hz => hz.2.2) hz
theorem OwnA.bel {α : Type} {w w' : World} {base : Nat} {Y : Nat → Prop} {t : TypeId} {k : Nat} {E : World → (Nat → Prop) → List Value → α → Prop} {v v' : Value} {xs : List α} (h : OwnA w base Y t k E v xs) (g : Grow w w' v v') {B : Nat} (hB : B ≤ base) (hs : B ≤ w.heap.size) : Below B w w' := g.below hs (fun b hb => Nat.le_trans hB (h.own hb).1)
theorem zofA_old {α : Type} {w w1 w2 : World} {Z : Nat → Prop} {t : TypeId} {k : Nat} {E : World → (Nat → Prop) → List Value → α → Prop} (F : Fam k E) {v : Value} {xs : List α} (h : OwnA w1 w.heap.size Z t k E v xs) {cs : List Value} {x : α} (hx : E w Z cs x) (hb : Below w.heap.size w w2) : E w2 (ZofA w2 Z v) cs x :=
  F.go (F.old hx) (keepT hb) (fun _ _ => trivial) (fun b hz => ⟨hz.1, Nat.lt_of_lt_of_le hz.2 hb.size, fun e => by have := (h.own e).1; have := hz.2; omega⟩)
theorem fl_le {α : Type} {xs : List α} {P : α → Bool} (h : xs.length ≤ 4000000) : (xs.filter P).length ≤ 4000000 := Nat.le_trans (List.length_filter_le _ _) h
theorem fl_len {α : Type} {xs : List α} {P : α → Bool} (h : xs.length ≤ 4000000) (j : Nat) : ((xs.take j).filter P).length ≤ 4000000 := Nat.le_trans (List.length_filter_le _ _) (by rw [List.length_take]; omega)
theorem RowM.el {α : Type} {w : World} {Z : Nat → Prop} {k : Nat} {E : List Value → α → Prop} {v : Value} {xs : List α} (h : RowM w Z k E v xs) (hk : 0 < k) {i : Nat} (hi : i < xs.length) {cs : List Value} (hl : cs.length = k) {a : Option Addr} {n c b o : Nat} (ev : v = .slice a n c) (ea : a = some ⟨b, o, none⟩) (hc : ∀ j u, cs[j]? = some u → w.cell? ⟨b, o + i * k + j, none⟩ = some u) : E cs xs[i] := by
  subst ev
  obtain ⟨b', o', cs', e, -, -, hl', he, hc'⟩ := RowM.at h hk hi
  rw [ea] at e
  cases e
  have : cs = cs' := by
    apply List.ext_getElem?
    intro j
    by_cases hj : j < k
    · have e1 := hc j _ (List.getElem?_eq_getElem (show j < cs.length by omega))
      have e2 := hc' j _ (List.getElem?_eq_getElem (show j < cs'.length by omega))
      rw [e1] at e2
      rw [List.getElem?_eq_getElem (show j < cs.length by omega), List.getElem?_eq_getElem (show j < cs'.length by omega)]
      exact e2
    · rw [List.getElem?_eq_none (by omega), List.getElem?_eq_none (by omega)]
  rw [this]
  exact he
theorem chosenF (w : World) (Z : Nat → Prop) (d : Nat) (xs : List (CF CM)) (a : Option Addr) (c : Nat) (h : FlsR w Z d (.slice a xs.length c) xs) (fn : FuncId) (caps : Array Value) (hcf : ∀ (args : Array Value) (W : World), (callFunc fn args).run Tryz.prog W = .ok (.enter fn args) W) (P : CF CM → Bool)
    (hf : ∀ (W : World), Below w.heap.size w W → ∀ (cs : List Value) (x : CF CM), x ∈ xs → FmF d W Z cs x → Calls Tryz.prog fn (#[.agg cs.toArray] ++ caps) W fun e w' => e = .returned (.bool (P x)) ∧ Below W.heap.size W w') : Calls Tryz.prog 72 #[.slice a xs.length c, .func (.func fn) #[] caps] w fun e w' => ∃ a' c', e = .returned (.slice a' (xs.filter P).length c') ∧ RowM w' (fun b => Z b ∨ w.heap.size ≤ b) 3 (FmF d w' (fun b => Z b ∨ w.heap.size ≤ b)) (.slice a' (xs.filter P).length c') (xs.filter P) ∧ Below w.heap.size w w' := by
  obtain ⟨_, _, e1, l1⟩ := RowM.sl h
  clear e1
  have m1 : (xs.length : Int) ≤ 9223372036854775807 := by omega
  have H1 := hid h
  have HF := hid hf
  clear h hf
  go_enter Tryz.func72, Tryz.ntmps72
  go_wp2
  go_loopw [5, 10] (fun s5 s10 wr => ∃ (j n : Nat) (oa : Option Addr) (oc : Nat), s5 = .slice oa n oc ∧ s10 = .int .i64 j ∧ j ≤ xs.length ∧ Hid (((xs.take j).filter P).length = n) ∧ Hid (OwnA wr w.heap.size Z 29 3 (FmF d) (.slice oa n oc) ((xs.take j).filter P)) ∧ Hid (Below w.heap.size w wr)) (fun s5 s10 wr => xs.length - numAt wr s10)
  case atStart => exact ⟨0, 0, none, 0, rfl, rfl, by omega, hid rfl, hid (OwnA.nil _ _ _ _ _ _), hid (Below.refl _ _)⟩
  case round =>
    obtain ⟨j, n, oa, oc, rfl, rfl, hj, HLN, HO, hb⟩ := hrel
    by_cases hlt : j < xs.length
    · have k2 : (j : Int) < (xs.length : Int) := by omega
      obtain ⟨b1, o1, ka1, kc1, va1, vc1, rfl, -, hb1, c0, c1, c2, he⟩ := fls_at H1.out hlt
      have HE := hid he
      have HTK : Hid ((xs.take (j + 1)).filter P = (xs.take j).filter P ++ (if P xs[j] = true then [xs[j]] else [])) := hid (by rw [List.take_succ_eq_append_getElem hlt, List.filter_append]; simp only [List.filter_cons, List.filter_nil])
      have HME := hid (List.getElem_mem hlt)
      have HLB : Hid (n ≤ 4000000) := hid (by rw [← HLN.out]; exact fl_len l1 j)
      replace c0 := cell_below c0 hb.out
      replace c1 := cell_below c1 hb.out
      replace c2 := cell_below c2 hb.out
      replace hb1 : b1 < wr.heap.size := World.block_lt_of_cell? _ _ c0
      clear he
      generalize xs[j] = x at *
      go_wp2_with fail
      refine (HF.out _ (by have := hb.out; exact blBy) [.int .i64 x.num, .slice ka1 x.ks.length kc1, .slice va1 x.vs.length vc1] x HME.out (Fam.go (famF d) HE.out (keepT (by have := hb.out; exact blBy)) (fun _ _ => trivial) (fun _ h => h))).mono ?_
      rintro e w1 ⟨rfl, hbx⟩
      have Bx : Blk w1 wr.heap.size 29 #[.int .i64 x.num, .slice ka1 x.ks.length kc1, .slice va1 x.vs.length vc1] := (Blk.new _ _ _).kept hbx
      have HO1 := hid (HO.out.kept (famF d) (below_trans (below_alloc _) hbx))
      have hbw : Hid (Below w.heap.size w w1) := hid (bl_then (by have := hb.out; exact blBy) hbx)
      clear hbx HO c0 c1 c2
      cases hq : P x with
      | false =>
        rw [hq, if_neg (by simp), List.append_nil] at HTK
        go_wp2
        exact ⟨⟨j + 1, n, oa, oc, rfl, by simp, by omega, hid (by rw [HTK.out]; exact HLN.out), hid (by rw [HTK.out]; exact HO1.out), hbw⟩, by simp [numAt]; omega⟩
      | true =>
        rw [hq, if_pos rfl] at HTK
        have HZ : Hid (FmF d w1 (ZofA w1 Z (.slice oa n oc)) [.int .i64 x.num, .slice ka1 x.ks.length kc1, .slice va1 x.vs.length vc1] x) := hid (zofA_old (famF d) HO1.out HE.out hbw.out)
        obtain ⟨la, lc, x1, HRUN, HO2, HG⟩ := OwnA.push (famF d) 29 32 56 (.agg #[.int .i64 0, .slice none 0 0, .slice none 0 0]) Tryz.underlying32 Tryz.infoF rfl (by decide) (by decide) HO1.out HZ.out hbw.out.size (by rw [HLN.out]; exact HLB.out)
        rw [HLN.out] at HRUN HO2 HG
        have hb2 : Hid (Below w.heap.size w x1) := hid (hbw.out.trans (HO1.out.bel HG.out (Nat.le_refl _) hbw.out.size))
        have xx := Bx.cellF
        have zx := Bx.lt
        go_wp2_with (first | (at_builtin; refine wpList_append_ran rfl _ _ 32 32 rfl rfl _ _ (.slice la (n + 1) lc) x1 rfl rfl HRUN.out ?_))
        exact ⟨⟨j + 1, n + 1, la, lc, rfl, by simp, by omega, hid (by rw [HTK.out, List.length_append, HLN.out]; rfl), hid (by rw [HTK.out]; exact HO2.out), hb2⟩, by simp [numAt]; omega⟩
    · have k2 : ¬ (j : Int) < (xs.length : Int) := by omega
      have e1 : xs.take j = xs := List.take_of_length_le (by omega)
      rw [e1] at HO HLN
      have HRW := hid (HO.out.row (famF d) (fl_le l1))
      rw [← HLN.out] at HRW ⊢
      clear e1 HLN HO
      go_wp2
      go_ret
      exact ⟨oa, oc, rfl, HRW.out, hb.out⟩
theorem chosenE (w : World) (Z : Nat → Prop) (xs : List (CE)) (a : Option Addr) (c : Nat) (h : EnsR w Z (.slice a xs.length c) xs) (fn : FuncId) (caps : Array Value) (hcf : ∀ (args : Array Value) (W : World), (callFunc fn args).run Tryz.prog W = .ok (.enter fn args) W) (P : CE → Bool)
    (hf : ∀ (W : World), Below w.heap.size w W → ∀ (cs : List Value) (x : CE), x ∈ xs → FmE W Z cs x → Calls Tryz.prog fn (#[.agg cs.toArray] ++ caps) W fun e w' => e = .returned (.bool (P x)) ∧ Below W.heap.size W w') : Calls Tryz.prog 73 #[.slice a xs.length c, .func (.func fn) #[] caps] w fun e w' => ∃ a' c', e = .returned (.slice a' (xs.filter P).length c') ∧ RowM w' (fun b => Z b ∨ w.heap.size ≤ b) 4 (FmE w' (fun b => Z b ∨ w.heap.size ≤ b)) (.slice a' (xs.filter P).length c') (xs.filter P) ∧ Below w.heap.size w w' := by
  obtain ⟨_, _, e1, l1⟩ := RowM.sl h
  clear e1
  have m1 : (xs.length : Int) ≤ 9223372036854775807 := by omega
  have H1 := hid h
  have HF := hid hf
  clear h hf
  go_enter Tryz.func73, Tryz.ntmps73
  go_wp2
  go_loopw [5, 10] (fun s5 s10 wr => ∃ (j n : Nat) (oa : Option Addr) (oc : Nat), s5 = .slice oa n oc ∧ s10 = .int .i64 j ∧ j ≤ xs.length ∧ Hid (((xs.take j).filter P).length = n) ∧ Hid (OwnA wr w.heap.size Z 40 4 (FmE) (.slice oa n oc) ((xs.take j).filter P)) ∧ Hid (Below w.heap.size w wr)) (fun s5 s10 wr => xs.length - numAt wr s10)
  case atStart => exact ⟨0, 0, none, 0, rfl, rfl, by omega, hid rfl, hid (OwnA.nil _ _ _ _ _ _), hid (Below.refl _ _)⟩
  case round =>
    obtain ⟨j, n, oa, oc, rfl, rfl, hj, HLN, HO, hb⟩ := hrel
    by_cases hlt : j < xs.length
    · have k2 : (j : Int) < (xs.length : Int) := by omega
      obtain ⟨b1, o1, ka1, kc1, rfl, -, hb1, c0, c1, c2, c3, he⟩ := ens_at H1.out hlt
      have HE := hid he
      have HTK : Hid ((xs.take (j + 1)).filter P = (xs.take j).filter P ++ (if P xs[j] = true then [xs[j]] else [])) := hid (by rw [List.take_succ_eq_append_getElem hlt, List.filter_append]; simp only [List.filter_cons, List.filter_nil])
      have HME := hid (List.getElem_mem hlt)
      have HLB : Hid (n ≤ 4000000) := hid (by rw [← HLN.out]; exact fl_len l1 j)
      replace c0 := cell_below c0 hb.out
      replace c1 := cell_below c1 hb.out
      replace c2 := cell_below c2 hb.out
      replace c3 := cell_below c3 hb.out
      replace hb1 : b1 < wr.heap.size := World.block_lt_of_cell? _ _ c0
      clear he
      generalize xs[j] = x at *
      go_wp2_with fail
      refine (HF.out _ (by have := hb.out; exact blBy) [.int .i64 x.num, .int .i64 x.kind, .int .u64 x.n, .slice ka1 x.b.length kc1] x HME.out (Fam.go (famE) HE.out (keepT (by have := hb.out; exact blBy)) (fun _ _ => trivial) (fun _ h => h))).mono ?_
      rintro e w1 ⟨rfl, hbx⟩
      have Bx : Blk w1 wr.heap.size 40 #[.int .i64 x.num, .int .i64 x.kind, .int .u64 x.n, .slice ka1 x.b.length kc1] := (Blk.new _ _ _).kept hbx
      have HO1 := hid (HO.out.kept (famE) (below_trans (below_alloc _) hbx))
      have hbw : Hid (Below w.heap.size w w1) := hid (bl_then (by have := hb.out; exact blBy) hbx)
      clear hbx HO c0 c1 c2 c3
      cases hq : P x with
      | false =>
        rw [hq, if_neg (by simp), List.append_nil] at HTK
        go_wp2
        exact ⟨⟨j + 1, n, oa, oc, rfl, by simp, by omega, hid (by rw [HTK.out]; exact HLN.out), hid (by rw [HTK.out]; exact HO1.out), hbw⟩, by simp [numAt]; omega⟩
      | true =>
        rw [hq, if_pos rfl] at HTK
        have HZ : Hid (FmE w1 (ZofA w1 Z (.slice oa n oc)) [.int .i64 x.num, .int .i64 x.kind, .int .u64 x.n, .slice ka1 x.b.length kc1] x) := hid (zofA_old (famE) HO1.out HE.out hbw.out)
        obtain ⟨la, lc, x1, HRUN, HO2, HG⟩ := OwnA.push (famE) 40 33 48 (.agg #[.int .i64 0, .int .i64 0, .int .u64 0, .slice none 0 0]) Tryz.underlying33 Tryz.infoE rfl (by decide) (by decide) HO1.out HZ.out hbw.out.size (by rw [HLN.out]; exact HLB.out)
        rw [HLN.out] at HRUN HO2 HG
        have hb2 : Hid (Below w.heap.size w x1) := hid (hbw.out.trans (HO1.out.bel HG.out (Nat.le_refl _) hbw.out.size))
        have xx := Bx.cellF
        have zx := Bx.lt
        go_wp2_with (first | (at_builtin; refine wpList_append_ran rfl _ _ 33 33 rfl rfl _ _ (.slice la (n + 1) lc) x1 rfl rfl HRUN.out ?_))
        exact ⟨⟨j + 1, n + 1, la, lc, rfl, by simp, by omega, hid (by rw [HTK.out, List.length_append, HLN.out]; rfl), hid (by rw [HTK.out]; exact HO2.out), hb2⟩, by simp [numAt]; omega⟩
    · have k2 : ¬ (j : Int) < (xs.length : Int) := by omega
      have e1 : xs.take j = xs := List.take_of_length_le (by omega)
      rw [e1] at HO HLN
      have HRW := hid (HO.out.row (famE) (fl_le l1))
      rw [← HLN.out] at HRW ⊢
      clear e1 HLN HO
      go_wp2
      go_ret
      exact ⟨oa, oc, rfl, HRW.out, hb.out⟩
theorem everyF (w : World) (Z : Nat → Prop) (d : Nat) (xs : List (CF CM)) (a : Option Addr) (c : Nat) (h : FlsR w Z d (.slice a xs.length c) xs) (fn : FuncId) (caps : Array Value) (hcf : ∀ (args : Array Value) (W : World), (callFunc fn args).run Tryz.prog W = .ok (.enter fn args) W) (P : CF CM → Bool)
    (hf : ∀ (W : World), Below w.heap.size w W → ∀ (cs : List Value) (x : CF CM), x ∈ xs → FmF d W Z cs x → Calls Tryz.prog fn (#[.agg cs.toArray] ++ caps) W fun e w' => e = .returned (.bool (P x)) ∧ Below W.heap.size W w') : Calls Tryz.prog 114 #[.slice a xs.length c, .func (.func fn) #[] caps] w fun e w' => e = .returned (.bool (xs.all P)) ∧ Below w.heap.size w w' := by
  obtain ⟨_, _, e1, l1⟩ := RowM.sl h
  clear e1
  have m1 : (xs.length : Int) ≤ 9223372036854775807 := by omega
  have H1 := hid h
  have HF := hid hf
  clear h hf
  go_enter Tryz.func114, Tryz.ntmps114
  go_wp2
  go_loopw [9] (fun s9 wr => ∃ j : Nat, s9 = .int .i64 j ∧ j ≤ xs.length ∧ Hid (xs.all P = (xs.drop j).all P) ∧ Hid (Below w.heap.size w wr)) (fun s9 wr => xs.length - numAt wr s9)
  case atStart => exact ⟨0, rfl, by omega, hid rfl, hid (Below.refl _ _)⟩
  case round =>
    obtain ⟨j, rfl, hj, HA, hb⟩ := hrel
    by_cases hlt : j < xs.length
    · have k2 : (j : Int) < (xs.length : Int) := by omega
      obtain ⟨b1, o1, ka1, kc1, va1, vc1, rfl, -, hb1, c0, c1, c2, he⟩ := fls_at (H1.out.kept hb.out) hlt
      have HE := hid he
      have HD : Hid ((xs.drop j).all P = (P xs[j] && (xs.drop (j + 1)).all P)) := hid (by rw [List.drop_eq_getElem_cons hlt, List.all_cons])
      have HME := hid (List.getElem_mem hlt)
      clear he
      generalize xs[j] = x at *
      go_wp2_with fail
      refine (HF.out _ (by have := hb.out; exact blBy) [.int .i64 x.num, .slice ka1 x.ks.length kc1, .slice va1 x.vs.length vc1] x HME.out (Fam.go (famF d) HE.out (keepT (below_alloc _)) (fun _ _ => trivial) (fun _ h => h))).mono ?_
      rintro e w1 ⟨rfl, hbx⟩
      have hbw : Hid (Below w.heap.size w w1) := hid (bl_then (by have := hb.out; exact blBy) hbx)
      clear hbx c0 c1 c2
      cases hq : P x with
      | false =>
        have HX : Hid (xs.all P = false) := hid (by rw [HA.out, HD.out, hq]; rfl)
        go_wp2
        go_ret
        exact ⟨ret_bool HX.out.symm, hbw.out⟩
      | true =>
        have HX : Hid (xs.all P = (xs.drop (j + 1)).all P) := hid (by rw [HA.out, HD.out, hq]; rfl)
        go_wp2
        exact ⟨⟨j + 1, by simp, by omega, HX, hbw⟩, by simp [numAt]; omega⟩
    · have k2 : ¬ (j : Int) < (xs.length : Int) := by omega
      have HX : Hid (xs.all P = true) := hid (by rw [HA.out, List.drop_of_length_le (by omega)]; rfl)
      go_wp2
      go_ret
      exact ⟨ret_bool HX.out.symm, hb.out⟩
theorem everyE (w : World) (Z : Nat → Prop) (xs : List (CE)) (a : Option Addr) (c : Nat) (h : EnsR w Z (.slice a xs.length c) xs) (fn : FuncId) (caps : Array Value) (hcf : ∀ (args : Array Value) (W : World), (callFunc fn args).run Tryz.prog W = .ok (.enter fn args) W) (P : CE → Bool)
    (hf : ∀ (W : World), Below w.heap.size w W → ∀ (cs : List Value) (x : CE), x ∈ xs → FmE W Z cs x → Calls Tryz.prog fn (#[.agg cs.toArray] ++ caps) W fun e w' => e = .returned (.bool (P x)) ∧ Below W.heap.size W w') : Calls Tryz.prog 116 #[.slice a xs.length c, .func (.func fn) #[] caps] w fun e w' => e = .returned (.bool (xs.all P)) ∧ Below w.heap.size w w' := by
  obtain ⟨_, _, e1, l1⟩ := RowM.sl h
  clear e1
  have m1 : (xs.length : Int) ≤ 9223372036854775807 := by omega
  have H1 := hid h
  have HF := hid hf
  clear h hf
  go_enter Tryz.func116, Tryz.ntmps116
  go_wp2
  go_loopw [9] (fun s9 wr => ∃ j : Nat, s9 = .int .i64 j ∧ j ≤ xs.length ∧ Hid (xs.all P = (xs.drop j).all P) ∧ Hid (Below w.heap.size w wr)) (fun s9 wr => xs.length - numAt wr s9)
  case atStart => exact ⟨0, rfl, by omega, hid rfl, hid (Below.refl _ _)⟩
  case round =>
    obtain ⟨j, rfl, hj, HA, hb⟩ := hrel
    by_cases hlt : j < xs.length
    · have k2 : (j : Int) < (xs.length : Int) := by omega
      obtain ⟨b1, o1, ka1, kc1, rfl, -, hb1, c0, c1, c2, c3, he⟩ := ens_at (H1.out.kept hb.out) hlt
      have HE := hid he
      have HD : Hid ((xs.drop j).all P = (P xs[j] && (xs.drop (j + 1)).all P)) := hid (by rw [List.drop_eq_getElem_cons hlt, List.all_cons])
      have HME := hid (List.getElem_mem hlt)
      clear he
      generalize xs[j] = x at *
      go_wp2_with fail
      refine (HF.out _ (by have := hb.out; exact blBy) [.int .i64 x.num, .int .i64 x.kind, .int .u64 x.n, .slice ka1 x.b.length kc1] x HME.out (Fam.go (famE) HE.out (keepT (below_alloc _)) (fun _ _ => trivial) (fun _ h => h))).mono ?_
      rintro e w1 ⟨rfl, hbx⟩
      have hbw : Hid (Below w.heap.size w w1) := hid (bl_then (by have := hb.out; exact blBy) hbx)
      clear hbx c0 c1 c2 c3
      cases hq : P x with
      | false =>
        have HX : Hid (xs.all P = false) := hid (by rw [HA.out, HD.out, hq]; rfl)
        go_wp2
        go_ret
        exact ⟨ret_bool HX.out.symm, hbw.out⟩
      | true =>
        have HX : Hid (xs.all P = (xs.drop (j + 1)).all P) := hid (by rw [HA.out, HD.out, hq]; rfl)
        go_wp2
        exact ⟨⟨j + 1, by simp, by omega, HX, hbw⟩, by simp [numAt]; omega⟩
    · have k2 : ¬ (j : Int) < (xs.length : Int) := by omega
      have HX : Hid (xs.all P = true) := hid (by rw [HA.out, List.drop_of_length_le (by omega)]; rfl)
      go_wp2
      go_ret
      exact ⟨ret_bool HX.out.symm, hb.out⟩
theorem everyV (w : World) (Z : Nat → Prop) (d : Nat) (xs : List (CV CM)) (a : Option Addr) (c : Nat) (h : VlsR w Z d (.slice a xs.length c) xs) (fn : FuncId) (caps : Array Value) (hcf : ∀ (args : Array Value) (W : World), (callFunc fn args).run Tryz.prog W = .ok (.enter fn args) W) (P : CV CM → Bool)
    (hf : ∀ (W : World), Below w.heap.size w W → ∀ (cs : List Value) (x : CV CM), x ∈ xs → FmV d W Z cs x → Calls Tryz.prog fn (#[.agg cs.toArray] ++ caps) W fun e w' => e = .returned (.bool (P x)) ∧ Below W.heap.size W w') : Calls Tryz.prog 146 #[.slice a xs.length c, .func (.func fn) #[] caps] w fun e w' => e = .returned (.bool (xs.all P)) ∧ Below w.heap.size w w' := by
  obtain ⟨_, _, e1, l1⟩ := RowM.sl h
  clear e1
  have m1 : (xs.length : Int) ≤ 9223372036854775807 := by omega
  have H1 := hid h
  have HF := hid hf
  clear h hf
  go_enter Tryz.func146, Tryz.ntmps146
  go_wp2
  go_loopw [9] (fun s9 wr => ∃ j : Nat, s9 = .int .i64 j ∧ j ≤ xs.length ∧ Hid (xs.all P = (xs.drop j).all P) ∧ Hid (Below w.heap.size w wr)) (fun s9 wr => xs.length - numAt wr s9)
  case atStart => exact ⟨0, rfl, by omega, hid rfl, hid (Below.refl _ _)⟩
  case round =>
    obtain ⟨j, rfl, hj, HA, hb⟩ := hrel
    by_cases hlt : j < xs.length
    · have k2 : (j : Int) < (xs.length : Int) := by omega
      obtain ⟨b1, o1, ka1, kc1, va1, vc1, rfl, -, hb1, c0, c1, c2, he⟩ := vls_at (H1.out.kept hb.out) hlt
      have HE := hid he
      have HD : Hid ((xs.drop j).all P = (P xs[j] && (xs.drop (j + 1)).all P)) := hid (by rw [List.drop_eq_getElem_cons hlt, List.all_cons])
      have HME := hid (List.getElem_mem hlt)
      clear he
      generalize xs[j] = x at *
      go_wp2_with fail
      refine (HF.out _ (by have := hb.out; exact blBy) [.int .u64 x.n, .slice ka1 x.b.length kc1, .slice va1 x.ms.length vc1] x HME.out (Fam.go (famV d) HE.out (keepT (below_alloc _)) (fun _ _ => trivial) (fun _ h => h))).mono ?_
      rintro e w1 ⟨rfl, hbx⟩
      have hbw : Hid (Below w.heap.size w w1) := hid (bl_then (by have := hb.out; exact blBy) hbx)
      clear hbx c0 c1 c2
      cases hq : P x with
      | false =>
        have HX : Hid (xs.all P = false) := hid (by rw [HA.out, HD.out, hq]; rfl)
        go_wp2
        go_ret
        exact ⟨ret_bool HX.out.symm, hbw.out⟩
      | true =>
        have HX : Hid (xs.all P = (xs.drop (j + 1)).all P) := hid (by rw [HA.out, HD.out, hq]; rfl)
        go_wp2
        exact ⟨⟨j + 1, by simp, by omega, HX, hbw⟩, by simp [numAt]; omega⟩
    · have k2 : ¬ (j : Int) < (xs.length : Int) := by omega
      have HX : Hid (xs.all P = true) := hid (by rw [HA.out, List.drop_of_length_le (by omega)]; rfl)
      go_wp2
      go_ret
      exact ⟨ret_bool HX.out.symm, hb.out⟩
end Go.Proofs.YtnfdlnelfnigdaaGreatDoor
namespace Go.Proofs.YtnfdlnelfnigdaaGreatDoor
open Go.RowKit
set_option maxRecDepth 1000000
set_option linter.unusedVariables false
set_option linter.unusedSimpArgs false
set_option maxHeartbeats 1000000
theorem RowM.sub {α : Type} {w : World} {Z : Nat → Prop} {k : Nat} {E : List Value → α → Prop} {b o n c : Nat} {xs : List α} (h : RowM w Z k E (.slice (some ⟨b, o, none⟩) n c) xs) (hk : 0 < k) {i : Nat} (hi : i < xs.length) {c' : Nat} (h1 : 1 ≤ c') (h2 : c' ≤ 9223372036854775807) : RowM w Z k E (.slice (some ⟨b, o + i * k, none⟩) 1 c') [xs[i]] := by
  obtain ⟨b', o', cs, e, hz, -, hl, he, hc⟩ := RowM.at h hk hi
  cases e
  refine ⟨[⟨cs, hl⟩], ⟨_, _, rfl, by simp [hl], h1, h2, .inr ⟨b, o + i * k, rfl, hz, fun j u hu => hc j u (by simpa using hu)⟩⟩, rfl, by simp, fun j t x ht hx => ?_⟩
  have e0 : j = 0 := by
    have := (List.getElem?_eq_some_iff.1 ht).1
    simpa using this
  subst e0
  simp at ht hx
  subst ht hx
  exact he
theorem RowM.cap {α : Type} {w : World} {Z : Nat → Prop} {k : Nat} {E : List Value → α → Prop} {a : Option Addr} {n c : Nat} {xs : List α} (h : RowM w Z k E (.slice a n c) xs) : xs.length ≤ c ∧ c ≤ 9223372036854775807 := by
  obtain ⟨ts, ⟨a', c', e, hv⟩, _⟩ := h
  cases e
  exact ⟨hv.le, hv.max⟩
end Go.Proofs.YtnfdlnelfnigdaaGreatDoor
namespace Go.Proofs.YtnfdlnelfnigdaaGreatDoor
open Go.RowKit
set_option maxRecDepth 1000000
set_option linter.unusedVariables false
set_option linter.unusedSimpArgs false
set_option maxHeartbeats 2000000
/-- The greatest of a list, and of a number. -/
def mxL {α : Type} (f : α → Nat) (a : Nat) (l : List α) : Nat := l.foldl (fun a x => max a (f x)) a
def depVs (dm : CM → Nat) (a : Nat) (l : List (CV CM)) : Nat := l.foldl (fun a v => mxL dm a v.ms) a
/-- How deep, so far down. -/
def depM : Nat → CM → Nat
  | 0, _ => 0
  | d + 1, m => m.fs.foldl (fun a f => max (max a (depVs (depM d) 0 f.ks)) (depVs (depM d) 0 f.vs)) 0 + 1
theorem mxL_le {α : Type} {f : α → Nat} {b : Nat} : ∀ {l : List α} {a : Nat}, a ≤ b → (∀ x ∈ l, f x ≤ b) → mxL f a l ≤ b
  | [], a, ha, _ => ha
  | x :: r, a, ha, h => by
    show mxL f (max a (f x)) r ≤ b
    exact mxL_le (Nat.max_le.2 ⟨ha, h x List.mem_cons_self⟩) (fun y hy => h y (List.mem_cons_of_mem _ hy))
theorem depVs_le {dm : CM → Nat} {b : Nat} (hd : ∀ m, dm m ≤ b) : ∀ {l : List (CV CM)} {a : Nat}, a ≤ b → depVs dm a l ≤ b
  | [], a, ha => ha
  | v :: r, a, ha => by
    show depVs dm (mxL dm a v.ms) r ≤ b
    exact depVs_le hd (mxL_le ha (fun m _ => hd m))
theorem depFs_le {dm : CM → Nat} {b : Nat} (hd : ∀ m, dm m ≤ b) : ∀ {l : List (CF CM)} {a : Nat}, a ≤ b → l.foldl (fun a f => max (max a (depVs dm 0 f.ks)) (depVs dm 0 f.vs)) a ≤ b
  | [], a, ha => ha
  | f :: r, a, ha => by
    rw [List.foldl_cons]
    exact depFs_le hd (Nat.max_le.2 ⟨Nat.max_le.2 ⟨ha, depVs_le hd (Nat.zero_le _)⟩, depVs_le hd (Nat.zero_le _)⟩)
theorem depM_le : ∀ (d : Nat) (m : CM), depM d m ≤ d
  | 0, _ => Nat.le_refl _
  | d + 1, m => by
    unfold depM
    exact Nat.succ_le_succ (depFs_le (depM_le d) (Nat.zero_le _))
end Go.Proofs.YtnfdlnelfnigdaaGreatDoor
namespace Go.Proofs.YtnfdlnelfnigdaaGreatDoor
open Go.RowKit
set_option maxRecDepth 1000000
set_option linter.unusedVariables false
set_option linter.unusedSimpArgs false
set_option maxHeartbeats 1000000
/-- A field of a type, but for what its messages hold. -/
def fieldB (l : List TV) (o : FT) (f : CF CM) : Bool := shapeB o.lab f && (f.vs.all (valB l o) && (f.ks.all (scalarB o.key) && keysB o.key f.ks))
theorem fieldIsTypedM (w : World) (l : List TV) (ta : Option Addr) (tc : Nat) (h : TbR w (.slice ta l.length tc) l) (o : FT) (hr : 0 ≤ o.ref ∧ o.ref.toNat < l.length) (Z : Nat → Prop) (d : Nat) (cs : List Value) (f : CF CM) (hf : FldE w Z (MsgE w Z d) cs f) : Calls Tryz.prog 112 #[.agg #[.slice ta l.length tc], .agg (cOW o), .agg cs.toArray] w fun e w' => e = .returned (.bool (fieldB l o f)) ∧ Below w.heap.size w w' := by
  have HSH := hid fun W (hW : Below w.heap.size w W) => hasShapeM W Z d o.lab cs f (hf.kept hW)
  obtain ⟨ka, kc, va, vc, rfl, g1, g2, l1, l2, -⟩ := fld_open hf
  have HVA := hid fun W (hW : Below w.heap.size w W) (p q : Nat) (hp : Blk W p 68 #[.slice ta l.length tc]) (hq : Blk W q 77 (cOW o)) => everyV W Z d f.vs va vc (g2.kept hW) 141 #[.pointer (some ⟨p, 0, none⟩), .pointer (some ⟨q, 0, none⟩)] cfVal (valB l o) (fun W' hW' cs x hx hm => valFn W' l ta tc (h.kept (below_trans hW hW')) o hr Z d cs x hm p q (hp.kept hW') (hq.kept hW'))
  have HKA := hid fun W (hW : Below w.heap.size w W) (q : Nat) (hq : Blk W q 77 (cOW o)) => everyV W Z d f.ks ka kc (g1.kept hW) 143 #[.pointer (some ⟨q, 0, none⟩)] cfKey (scalarB o.key) (fun W' hW' cs x hx hm => keyFn W' o Z d cs x hm q (hq.kept hW'))
  have HKR := hid fun W (hW : Below w.heap.size w W) => keysRiseM W Z d o.key f.ks ka kc (g1.kept hW)
  have HX : Hid (fieldB l o f = (shapeB o.lab f && (f.vs.all (valB l o) && (f.ks.all (scalarB o.key) && keysB o.key f.ks)))) := hid rfl
  clear h hr hf g1 g2
  generalize fieldB l o f = res at *
  generalize shapeB o.lab f = s1 at *
  generalize f.vs.all (valB l o) = s2 at *
  generalize f.ks.all (scalarB o.key) = s3 at *
  generalize keysB o.key f.ks = s4 at *
  unfold cOW at *
  go_enter Tryz.func112, Tryz.ntmps112
  go_wp2_with fail
  refine (HSH.out _ (by exact blBy)).mono ?_
  rintro e w1 ⟨rfl, hb1⟩
  have Br : Hid (Blk w1 w.heap.size 68 #[.slice ta l.length tc]) := hid ((((Blk.new _ _ _).kept (below_alloc _)).kept (below_alloc _)).kept hb1)
  have Bo : Hid (Blk w1 (w.heap.size + 1) 77 #[.string (strOfNums o.name), .int .i64 o.num, .int .i64 o.kind, .int .i64 o.ref, .int .i64 o.lab, .int .i64 o.one, .int .i64 o.key]) := hid (((Blk.newAt (by simp)).kept (below_alloc _)).kept hb1)
  have Bf : Hid (Blk w1 (w.heap.size + 1 + 1) 29 #[.int .i64 f.num, .slice ka f.ks.length kc, .slice va f.vs.length vc]) := hid ((Blk.newAt (by simp)).kept hb1)
  have hbz : Hid (Below w.heap.size w w1) := hid (bl_then (by exact blBy) hb1)
  clear hb1
  have xo := Bo.out.cellF
  have zo := Bo.out.lt
  have xf := Bf.out.cellF
  have zf := Bf.out.lt
  cases s1 with
  | false =>
    rw [Bool.false_and] at HX
    go_wp2
    go_ret
    exact ⟨ret_bool HX.out.symm, hbz.out⟩
  | true =>
  rw [Bool.true_and] at HX
  go_wp2_with fail
  refine (HVA.out _ hbz.out _ _ Br.out Bo.out).mono ?_
  rintro e w2 ⟨rfl, hb2⟩
  replace Br := hid (Br.out.kept hb2)
  replace Bo := hid (Bo.out.kept hb2)
  replace Bf := hid (Bf.out.kept hb2)
  replace hbz : Hid (Below w.heap.size w w2) := hid (below_trans hbz.out hb2)
  clear hb2 xo zo xf zf
  have xo := Bo.out.cellF
  have zo := Bo.out.lt
  have xf := Bf.out.cellF
  have zf := Bf.out.lt
  cases s2 with
  | false =>
    rw [Bool.false_and] at HX
    go_wp2
    go_ret
    exact ⟨ret_bool HX.out.symm, hbz.out⟩
  | true =>
  rw [Bool.true_and] at HX
  go_wp2_with fail
  refine (HKA.out _ hbz.out _ Bo.out).mono ?_
  rintro e w3 ⟨rfl, hb3⟩
  replace Br := hid (Br.out.kept hb3)
  replace Bo := hid (Bo.out.kept hb3)
  replace Bf := hid (Bf.out.kept hb3)
  replace hbz : Hid (Below w.heap.size w w3) := hid (below_trans hbz.out hb3)
  clear hb3 xo zo xf zf
  have xo := Bo.out.cellF
  have zo := Bo.out.lt
  have xf := Bf.out.cellF
  have zf := Bf.out.lt
  cases s3 with
  | false =>
    rw [Bool.false_and] at HX
    go_wp2
    go_ret
    exact ⟨ret_bool HX.out.symm, hbz.out⟩
  | true =>
  rw [Bool.true_and] at HX
  go_wp2_with fail
  refine (HKR.out _ hbz.out).mono ?_
  rintro e w4 ⟨rfl, hb4⟩
  replace Br := hid (Br.out.kept hb4)
  replace Bo := hid (Bo.out.kept hb4)
  replace Bf := hid (Bf.out.kept hb4)
  replace hbz : Hid (Below w.heap.size w w4) := hid (below_trans hbz.out hb4)
  clear hb4 xo zo xf zf
  go_wp2
  go_ret
  exact ⟨ret_bool HX.out.symm, hbz.out⟩
end Go.Proofs.YtnfdlnelfnigdaaGreatDoor
namespace Go.Proofs.YtnfdlnelfnigdaaGreatDoor
open Go.RowKit
set_option maxRecDepth 1000000
set_option linter.unusedVariables false
set_option linter.unusedSimpArgs false
set_option maxHeartbeats 1000000
/-- A field that is typed, by its number. -/
def typB8 (l : List TV) (fs : List FT) (f : CF CM) : Bool := hasF fs f.num && fieldB l (ownF fs f.num) f
theorem typFn (w : World) (l : List TV) (ta : Option Addr) (tc : Nat) (h : TbR w (.slice ta l.length tc) l) (hg : goodB l = true) (x : TV) (hx : x ∈ l) (Z : Nat → Prop) (d : Nat) (cs : List Value) (f : CF CM) (hf : FldE w Z (MsgE w Z d) cs f) (p q : Nat) (hp : Blk w p 66 (cTV x).toArray) (hq : Blk w q 68 #[.slice ta l.length tc]) : Calls Tryz.prog 111 #[.agg cs.toArray, .pointer (some ⟨p, 0, none⟩), .pointer (some ⟨q, 0, none⟩)] w fun e w' => e = .returned (.bool (typB8 l x.t.fs f)) ∧ Below w.heap.size w w' := by
  have HFT := hid fun W (hW : Below w.heap.size w W) (ho : hasF x.t.fs f.num = true) => fieldIsTypedM W l ta tc (h.kept hW) (ownF x.t.fs f.num) (by
    have hin : ownF x.t.fs f.num ∈ x.t.fs := by
      unfold ownF hasF at *
      cases e : x.t.fs.find? (fun o => o.num == f.num) with
      | none => rw [e] at ho; cases ho
      | some o => exact List.mem_of_find?_eq_some e
    exact good_refs hg hx hin) Z d cs f (hf.kept hW)
  have TX := h.ty x hx
  obtain ⟨ka, kc, va, vc, rfl, -⟩ := fld_open hf
  obtain ⟨ta1, tc1, ta2, tc2, ta3, tc3, ta4, tc4, e1, e2, e3, e4⟩ := shT_of TX
  have ecx : cTV x = [.string (strOfNums x.t.name), .bool x.t.enum, .slice ta1 x.t.fs.length tc1, .slice ta2 x.t.os.length tc2, .slice ta3 x.t.ss.length tc3, .slice ta4 x.t.rs.length tc4] := by unfold cTV; rw [e1, e2, e3, e4]
  rw [ecx] at hp
  have HFI := hid fun W (hW : Below w.heap.size w W) => findT x.t.fs f.num W ta1 tc1 (by rw [← e1]; exact (TX.kept hW).f) (good_rise hg hx).1 (good_rise hg hx).2
  have HX : Hid (typB8 l x.t.fs f = (hasF x.t.fs f.num && fieldB l (ownF x.t.fs f.num) f)) := hid rfl
  have HP := hid hp
  have HQ := hid hq
  have x1 := hp.cellF
  have z1 := hp.lt
  clear h hg hf TX e1 e2 e3 e4 ecx hx hp hq
  generalize typB8 l x.t.fs f = res at *
  generalize ownF x.t.fs f.num = o at *
  generalize hasF x.t.fs f.num = ok at *
  generalize fieldB l o f = s2 at *
  unfold tFT at HFI
  unfold cOW at HFT
  go_enter Tryz.func111, Tryz.ntmps111
  go_wp2_with fail
  refine (HFI.out _ (by exact blBy)).mono ?_
  rintro e w1 ⟨rfl, hb1⟩
  have Bf : Hid (Blk w1 w.heap.size 29 #[.int .i64 f.num, .slice ka f.ks.length kc, .slice va f.vs.length vc]) := hid ((Blk.new _ _ _).kept hb1)
  have hbz : Hid (Below w.heap.size w w1) := hid (bl_then (by exact blBy) hb1)
  clear hb1 x1 z1
  have Bq := HQ.out.kept hbz.out
  have x2 := Bq.cellF
  have z2 := Bq.lt
  have x3 := Bf.out.cellF
  have z3 := Bf.out.lt
  cases ok with
  | false =>
    rw [Bool.false_and] at HX
    go_wp2
    go_ret
    exact ⟨ret_bool HX.out.symm, by have := hbz.out; exact blBy⟩
  | true =>
  rw [Bool.true_and] at HX
  go_wp2_with fail
  refine (HFT.out _ (by have := hbz.out; exact blBy) (by first | exact trivial | rfl)).mono ?_
  rintro e w2 ⟨rfl, hb2⟩
  have hby : Hid (Below w.heap.size w w2) := hid (bl_then (by have := hbz.out; exact blBy) hb2)
  clear hb2
  go_wp2
  go_ret
  exact ⟨ret_bool HX.out.symm, hby.out⟩
theorem cfTyp (args : Array Value) (W : World) : (callFunc 111 args).run Tryz.prog W = .ok (.enter 111 args) W := cf_enter Tryz.func111 (by kernel_rfl) (by kernel_rfl) args W
end Go.Proofs.YtnfdlnelfnigdaaGreatDoor
namespace Go.Proofs.YtnfdlnelfnigdaaGreatDoor
open Go.RowKit
set_option maxRecDepth 1000000
set_option linter.unusedVariables false
set_option linter.unusedSimpArgs false
set_option maxHeartbeats 1000000
/-- What hold asks of a message. -/
def holdB (l : List TV) (ent : CE → Bool) (x : TV) (m : CM) : Bool := riseM m.fs && (m.fs.all (typB8 l x.t.fs) && (singleB x.t.fs m.fs && m.us.all ent))
theorem cfEnt (args : Array Value) (W : World) : (callFunc 117 args).run Tryz.prog W = .ok (.enter 117 args) W := cf_enter Tryz.func117 (by kernel_rfl) (by kernel_rfl) args W
theorem holdM (w : World) (l : List TV) (ta : Option Addr) (tc : Nat) (h : TbR w (.slice ta l.length tc) l) (hg : goodB l = true) (x : TV) (hx : x ∈ l) (ho : ∀ o ∈ x.t.fs, o.lab = 4 → 0 ≤ o.one ∧ o.one < 128) (ent : CE → Bool) (Z : Nat → Prop) (hent : ∀ (W : World), Below w.heap.size w W → ∀ (cs : List Value) (y : CE), FmE W Z cs y → Calls Tryz.prog 117 #[.agg cs.toArray] W fun e w' => e = .returned (.bool (ent y)) ∧ Below W.heap.size W w') (d : Nat) (cs : List Value) (m : CM) (hm : MsgE w Z (d + 1) cs m) : Calls Tryz.prog 77 #[.agg #[.slice ta l.length tc], .agg (cTV x).toArray, .agg cs.toArray] w fun e w' => e = .returned (.bool (holdB l ent x m)) ∧ Below w.heap.size w w' := by
  obtain ⟨ka, kc, va, vc, rfl, g1, g2, l1, l2⟩ := msg_open hm
  have HRI := hid fun W (hW : Below w.heap.size w W) => doRiseM W Z d m.fs ka kc (g1.kept hW)
  have HTY := hid fun W (hW : Below w.heap.size w W) (p q : Nat) (hp : Blk W p 66 (cTV x).toArray) (hq : Blk W q 68 #[.slice ta l.length tc]) => everyF W Z d m.fs ka kc (g1.kept hW) 111 #[.pointer (some ⟨p, 0, none⟩), .pointer (some ⟨q, 0, none⟩)] cfTyp (typB8 l x.t.fs) (fun W' hW' cs f hf hm => typFn W' l ta tc (h.kept (below_trans hW hW')) hg x hx Z d cs f hm p q (hp.kept hW') (hq.kept hW'))
  have HSI := hid fun W (hW : Below w.heap.size w W) => areSingleM W x ((h.ty x hx).kept hW) (good_rise hg hx).1 (good_rise hg hx).2 ho Z d m.fs ka kc (g1.kept hW)
  have HEN := hid fun W (hW : Below w.heap.size w W) => everyE W Z m.us va vc (g2.kept hW) 117 #[] cfEnt ent (fun W' hW' cs y hy hm => hent W' (below_trans hW hW') cs y hm)
  have HX : Hid (holdB l ent x m = (riseM m.fs && (m.fs.all (typB8 l x.t.fs) && (singleB x.t.fs m.fs && m.us.all ent)))) := hid rfl
  obtain ⟨ta1, tc1, ta2, tc2, ta3, tc3, ta4, tc4, e1, e2, e3, e4⟩ := shT_of (h.ty x hx)
  have ecx : cTV x = [.string (strOfNums x.t.name), .bool x.t.enum, .slice ta1 x.t.fs.length tc1, .slice ta2 x.t.os.length tc2, .slice ta3 x.t.ss.length tc3, .slice ta4 x.t.rs.length tc4] := by unfold cTV; rw [e1, e2, e3, e4]
  rw [ecx] at HTY HSI ⊢
  clear h hg hm g1 g2 hent ho ecx e1 e2 e3 e4 hx
  generalize holdB l ent x m = res at *
  generalize riseM m.fs = s1 at *
  generalize m.fs.all (typB8 l x.t.fs) = s2 at *
  generalize singleB x.t.fs m.fs = s3 at *
  generalize m.us.all ent = s4 at *
  go_enter Tryz.func77, Tryz.ntmps77
  go_wp2_with fail
  refine (HRI.out _ (by exact blBy)).mono ?_
  rintro e w1 ⟨rfl, hb1⟩
  have Br : Hid (Blk w1 w.heap.size 68 #[.slice ta l.length tc]) := hid ((((Blk.new _ _ _).kept (below_alloc _)).kept (below_alloc _)).kept hb1)
  have Bx : Hid (Blk w1 (w.heap.size + 1) 66 #[.string (strOfNums x.t.name), .bool x.t.enum, .slice ta1 x.t.fs.length tc1, .slice ta2 x.t.os.length tc2, .slice ta3 x.t.ss.length tc3, .slice ta4 x.t.rs.length tc4]) := hid (((Blk.newAt (by simp)).kept (below_alloc _)).kept hb1)
  have Bm : Hid (Blk w1 (w.heap.size + 1 + 1) 35 #[.slice ka m.fs.length kc, .slice va m.us.length vc]) := hid ((Blk.newAt (by simp)).kept hb1)
  have hbz : Hid (Below w.heap.size w w1) := hid (bl_then (by exact blBy) hb1)
  clear hb1
  have xo := Bx.out.cellF
  have zo := Bx.out.lt
  have xf := Bm.out.cellF
  have zf := Bm.out.lt
  cases s1 with
  | false =>
    rw [Bool.false_and] at HX
    go_wp2
    go_ret
    exact ⟨ret_bool HX.out.symm, by have := hbz.out; exact blBy⟩
  | true =>
  rw [Bool.true_and] at HX
  go_wp2_with fail
  refine (HTY.out _ hbz.out _ _ Bx.out Br.out).mono ?_
  rintro e w2 ⟨rfl, hb2⟩
  replace Br := hid (Br.out.kept hb2)
  replace Bx := hid (Bx.out.kept hb2)
  replace Bm := hid (Bm.out.kept hb2)
  replace hbz : Hid (Below w.heap.size w w2) := hid (below_trans hbz.out hb2)
  clear hb2 xo zo xf zf
  have xo := Bx.out.cellF
  have zo := Bx.out.lt
  have xf := Bm.out.cellF
  have zf := Bm.out.lt
  cases s2 with
  | false =>
    rw [Bool.false_and] at HX
    go_wp2
    go_ret
    exact ⟨ret_bool HX.out.symm, by have := hbz.out; exact blBy⟩
  | true =>
  rw [Bool.true_and] at HX
  go_wp2_with fail
  refine (HSI.out _ hbz.out).mono ?_
  rintro e w3 ⟨rfl, hb3⟩
  replace Br := hid (Br.out.kept hb3)
  replace Bx := hid (Bx.out.kept hb3)
  replace Bm := hid (Bm.out.kept hb3)
  replace hbz : Hid (Below w.heap.size w w3) := hid (below_trans hbz.out hb3)
  clear hb3 xo zo xf zf
  have xo := Bx.out.cellF
  have zo := Bx.out.lt
  have xf := Bm.out.cellF
  have zf := Bm.out.lt
  cases s3 with
  | false =>
    rw [Bool.false_and] at HX
    go_wp2
    go_ret
    exact ⟨ret_bool HX.out.symm, by have := hbz.out; exact blBy⟩
  | true =>
  rw [Bool.true_and] at HX
  go_wp2_with fail
  refine (HEN.out _ hbz.out).mono ?_
  rintro e w4 ⟨rfl, hb4⟩
  replace Br := hid (Br.out.kept hb4)
  replace Bx := hid (Bx.out.kept hb4)
  replace Bm := hid (Bm.out.kept hb4)
  replace hbz : Hid (Below w.heap.size w w4) := hid (below_trans hbz.out hb4)
  clear hb4 xo zo xf zf
  go_wp2
  go_ret
  exact ⟨ret_bool HX.out.symm, by have := hbz.out; exact blBy⟩
end Go.Proofs.YtnfdlnelfnigdaaGreatDoor
namespace Go.Proofs.YtnfdlnelfnigdaaGreatDoor
open Go.RowKit
set_option maxRecDepth 1000000
set_option linter.unusedVariables false
set_option linter.unusedSimpArgs false
set_option maxHeartbeats 1000000
/-- Of each oneof there is a field: so there are no more than 128. -/
theorem good_ones {l : List TV} (hg : goodB l = true) {x : TV} (hx : x ∈ l) : ∀ o ∈ x.t.fs, o.lab = 4 → 0 ≤ o.one ∧ o.one < 128 := by
  intro o ho h4
  have h128 := (good_rise hg hx).2
  obtain ⟨k, hk, rfl⟩ := List.mem_iff_getElem.1 hx
  have h := good_at hg hk
  unfold stepB typB at h
  simp only [Bool.and_eq_true] at h
  have h2 := h.2.2.2
  split at h2
  · rw [Bool.and_eq_true, decide_eq_true_eq] at h2
    have h3 : l[k].t.fs.length = 0 := by omega
    rw [List.eq_nil_of_length_eq_zero h3] at ho
    exact absurd ho (by simp)
  · unfold msgB at h2
    simp only [Bool.and_eq_true] at h2
    have h3 := List.all_eq_true.1 h2.2.2.1 o ho
    unfold fldB at h3
    simp only [Bool.and_eq_true] at h3
    have h5 := h3.2.2.2.1
    unfold oneB at h5
    rw [if_pos h4, decide_eq_true_eq] at h5
    have h6 := mem_few h2.2.2.2.2.2.1
    omega
end Go.Proofs.YtnfdlnelfnigdaaGreatDoor
namespace Go.Proofs.YtnfdlnelfnigdaaGreatDoor.W
open Go.RowKit
set_option maxRecDepth 1000000
theorem strOfNums_inj : ∀ (xs ys : List Int), (∀ x ∈ xs, 0 ≤ x ∧ x ≤ 255) → (∀ x ∈ ys, 0 ≤ x ∧ x ≤ 255) → strOfNums xs = strOfNums ys → xs = ys := by
  intro xs ys hx hy h
  have h1 : (strOfNums xs).data.toList = (strOfNums ys).data.toList := by rw [h]
  rw [strOfNums_data, strOfNums_data] at h1
  clear h
  induction xs generalizing ys with
  | nil => cases ys with
    | nil => rfl
    | cons y r => simp at h1
  | cons x r ih => cases ys with
    | nil => simp at h1
    | cons y s =>
      simp only [List.map_cons, List.cons.injEq] at h1
      have a := hx x (by simp)
      have b := hy y (by simp)
      have h2 : (UInt8.ofNat x.toNat).toNat = (UInt8.ofNat y.toNat).toNat := by rw [h1.1]
      simp only [UInt8.toNat_ofNat'] at h2
      rw [ih s (fun z hz => hx z (by simp [hz])) (fun z hz => hy z (by simp [hz])) h1.2]
      congr 1
      omega
theorem ret_int {k : IntKind} {a b : Int} (h : a = b) : Ending.returned (.int k a) = .returned (.int k b) := by rw [h]
theorem ret_bool {a b : Bool} (h : a = b) : Ending.returned (.bool a) = .returned (.bool b) := by rw [h]
theorem hid {p : Prop} (h : p) : Hid p := h
/-- A slice of bytes that can be read: its bytes are xs. -/
structure Reads (w : World) (a : Option Addr) (len cap : Nat) (xs : List Int) : Prop where
  length : xs.length = len
  le : len ≤ cap
  max : cap ≤ 9223372036854775807
  bd : ∀ i, 0 ≤ xs.getD i 0 ∧ xs.getD i 0 ≤ 255
  cells : (len = 0 ∧ (a = none → cap = 0)) ∨ ∃ b off, a = some ⟨b, off, none⟩ ∧ ∀ i, i < len → w.cell? ⟨b, off + i, none⟩ = some (.int .u8 (xs.getD i 0))
theorem conv {w : World} {a : Option Addr} {len cap : Nat} {xs : List Int} (h : Reads w a len cap xs) : (convert 23 9 (.slice a len cap)).run Tryz.prog w = .ok (.string (strOfNums xs)) w := by
  rcases h.cells with ⟨h0, _⟩ | ⟨b, off, rfl, hc⟩
  · subst h0
    have hx : xs = [] := List.eq_nil_of_length_eq_zero h.length
    subst hx
    cases a with
    | none => rw [run_convert_bytes_nil w 23 5 Tryz.underlying23 Tryz.underlying5 0 cap 9 Tryz.underlying9]; rfl
    | some x =>
      rw [run_convert_bytes_string w 23 9 5 _ 0 cap Tryz.underlying23 Tryz.underlying5 Tryz.underlying9, run_bytesToString w _ 0 cap [] (by simp [loadCells, loadCellsFrom])]
      rfl
  · exact run_convert_bytes_arg w 23 5 Tryz.underlying23 Tryz.underlying5 b off len cap xs h.length hc 9 Tryz.underlying9
theorem bd_mem {xs : List Int} (h : ∀ i, 0 ≤ xs.getD i 0 ∧ xs.getD i 0 ≤ 255) : ∀ x ∈ xs, 0 ≤ x ∧ x ≤ 255 := by
  intro x hx
  obtain ⟨i, hi, rfl⟩ := List.mem_iff_getElem.1 hx
  have := h i
  simpa [hi] using this
theorem Tryz.info5 : (Tryz.prog.info? 5).map (fun i => (i.zero, i.size, i.bytes)) = some (some (.int .u8 0), 1, 1) := by kernel_rfl
theorem bd_get {xs : List Int} (h : ∀ x ∈ xs, 0 ≤ x ∧ x ≤ 255) : ∀ i, 0 ≤ xs.getD i 0 ∧ xs.getD i 0 ≤ 255 := by
  intro i
  by_cases hi : i < xs.length
  · have := h xs[i] (List.getElem_mem hi)
    simpa [hi] using this
  · simp [hi]
theorem own_reads {w : World} {base n : Nat} {v : Value} {xs : List Int} (h : w.ownsRow base 5 1 v n (xs.map (Value.int .u8))) (hb : ∀ x ∈ xs, 0 ≤ x ∧ x ≤ 255) :
    ∃ a cap, v = .slice a n cap ∧ Reads w a n cap xs := by
  have hl : xs.length = n := by simpa using h.1
  rcases h.2 with ⟨rfl, h0⟩ | ⟨g, cap, cur, rfl, hbg, hg, hnc, hcm, hcs, htake⟩
  · subst h0
    exact ⟨none, 0, rfl, hl, Nat.le_refl _, by omega, bd_get hb, .inl ⟨rfl, fun _ => rfl⟩⟩
  · refine ⟨_, cap, rfl, hl, hnc, by unfold maxLen at hcm; omega, bd_get hb, .inr ⟨g, 0, rfl, fun i hi => ?_⟩⟩
    have hx : (xs.map (Value.int .u8))[i]? = some (.int .u8 (xs.getD i 0)) := by simp [show i < xs.length by omega]
    have := h.cells (g := g) rfl i _ hx
    have hadd : (⟨g, 0, none⟩ : Addr).add i = ⟨g, 0 + i, none⟩ := by unfold Addr.add; split <;> simp_all
    rwa [hadd] at this
theorem reads_kept {w w' : World} {a : Option Addr} {len cap : Nat} {xs : List Int} (h : Reads w a len cap xs) (hb : Below w.heap.size w w') : Reads w' a len cap xs := by
  refine ⟨h.length, h.le, h.max, h.bd, ?_⟩
  rcases h.cells with h0 | ⟨b, off, rfl, hc⟩
  · exact .inl h0
  · exact .inr ⟨b, off, rfl, fun i hi => by rw [hb.cell (p := ⟨b, off + i, none⟩) (World.block_lt_of_cell? _ _ (hc i hi))]; exact hc i hi⟩
theorem below_alloc {w : World} (o : Obj) : Below w.heap.size w (w.alloc o) := (Below.refl _ _).alloc (Nat.le_refl _) o
theorem below_trans {w w1 w2 : World} (h1 : Below w.heap.size w w1) (h2 : Below w1.heap.size w1 w2) : Below w.heap.size w w2 := h1.trans (h2.mono h1.size)
theorem reads_nil (w : World) : Reads w none 0 0 [] := ⟨rfl, Nat.le_refl _, by omega, by simp, .inl ⟨rfl, fun _ => rfl⟩⟩
theorem byte_of (n : Int) : IntKind.u8.wrap n = n % 256 := by simp [IntKind.wrap, IntKind.bits, IntKind.signed]
theorem reads_src {w : World} {x : Addr} {len cap : Nat} {xs : List Int} (h : Reads w (some x) len cap xs) : ∀ j u, (xs.map (Value.int .u8))[j]? = some u → w.cell? (x.add j) = some u := by
  intro j u hu
  have hlen := h.length
  have hj : j < xs.length := by
    rcases Nat.lt_or_ge j xs.length with h' | h'
    · exact h'
    · rw [List.getElem?_eq_none (by simpa using h')] at hu; cases hu
  rcases h.cells with ⟨h0, _⟩ | ⟨b, off, e, hc⟩
  · omega
  · cases e
    have hadd : (⟨b, off, none⟩ : Addr).add j = ⟨b, off + j, none⟩ := by unfold Addr.add; split <;> simp_all
    rw [hadd, hc j (by omega)]
    simp [hj] at hu ⊢
    exact hu
theorem one_u8 (xs : List Int) : ∀ u ∈ xs.map (Value.int .u8), u.oneCell' = true := by
  intro u hu
  obtain ⟨x, _, rfl⟩ := List.mem_map.1 hu
  rfl
theorem reads_none {w : World} {len cap : Nat} {xs : List Int} (h : Reads w none len cap xs) : len = 0 ∧ cap = 0 ∧ xs = [] := by
  rcases h.cells with ⟨h0, h1⟩ | ⟨b, off, e, _⟩
  · exact ⟨h0, h1 rfl, List.eq_nil_of_length_eq_zero (by rw [h.length, h0])⟩
  · cases e
/-- From w to w' the slice v became v': every old block but v's own is as it was, and v' lies in v's block or in a new one. -/
structure Grow (w w' : World) (v v' : Value) : Prop where
  os : w'.os = w.os
  tape : w'.tape = w.tape
  output : w'.output = w.output
  size : w.heap.size ≤ w'.heap.size
  block : ∀ k, k < w.heap.size → v.ownBlock ≠ some k → w'.heap[k]? = w.heap[k]?
  own : v'.ownBlock = v.ownBlock ∨ ∀ k, v'.ownBlock = some k → w.heap.size ≤ k
theorem Grow.refl (w : World) (v : Value) : Grow w w v v := ⟨rfl, rfl, rfl, Nat.le_refl _, fun _ _ _ => rfl, .inl rfl⟩
theorem Grow.trans {w w1 w2 : World} {v v1 v2 : Value} (h : Grow w w1 v v1) (g : Grow w1 w2 v1 v2) : Grow w w2 v v2 := by
  refine ⟨g.os.trans h.os, g.tape.trans h.tape, g.output.trans h.output, Nat.le_trans h.size g.size, fun k hk hv => ?_, ?_⟩
  · rw [g.block k (Nat.lt_of_lt_of_le hk h.size) ?_, h.block k hk hv]
    intro e
    rcases h.own with h1 | h1
    · exact hv (h1.symm.trans e)
    · have := h1 k e; omega
  · rcases g.own with g1 | g1
    · rcases h.own with h1 | h1
      · exact .inl (g1.trans h1)
      · exact .inr fun k hk => h1 k (g1.symm.trans hk)
    · exact .inr fun k hk => Nat.le_trans h.size (g1 k hk)
theorem Grow.ofBelow {w w' : World} {v : Value} (h : Below w.heap.size w w') : Grow w w' v v :=
  ⟨h.os, h.tape, h.output, h.size, fun k hk _ => h.block k hk, .inl rfl⟩
theorem Grow.alloc {w w' : World} {v v' : Value} (h : Grow w w' v v') (o : Obj) : Grow w (w'.alloc o) v v' := h.trans (Grow.ofBelow (below_alloc o))
/-- What lies below B stays, where v lies from B on. -/
theorem Grow.below {w w' : World} {v v' : Value} {B : Nat} (h : Grow w w' v v') (hB : B ≤ w.heap.size) (hv : ∀ k, v.ownBlock = some k → B ≤ k) : Below B w w' :=
  ⟨h.os, h.tape, h.output, h.size, fun k hk => h.block k (by omega) (fun e => by have := hv k e; omega)⟩
theorem run_append_mine {P : Program} (w : World) (base : Nat) (t ty e : TypeId) (i : TypeInfo) (z : Value) (size bytes : Nat) (ht : P.underlying t = some (.slice e)) (hi : P.info? e = some i) (hz : i.zero = some z)
    (hsize : i.size = size) (hby : i.bytes = bytes) (hzs : z.cells.size = size) (hsz : 0 < size)
    (v : Value) (n : Nat) (xs : List Value) (hown : w.ownsRow base e size v n xs)
    (a : Addr) (m c : Nat) (news : List Value) (hl : news.length = m * size) (hnews : ∀ j u, news[j]? = some u → w.cell? (a.add j) = some u) (h1 : ∀ u ∈ news, u.oneCell' = true)
    (h63 : n + m ≤ maxLen) (hbytes : (n + m) * bytes ≤ 140737488355328) (hbase : base ≤ w.heap.size) :
    ∃ v' w', (Builtin.append_ #[t, t] ty #[v, .slice (some a) m c]).run P w = .ok v' w' ∧ w'.ownsRow base e size v' (n + m) (xs ++ news) ∧ Grow w w' v v' := by
  obtain ⟨v', w', hr, ho, hg, hn⟩ := run_append_own (P := P) w base t ty e i z size bytes ht hi hz hsize hby hzs hsz v n xs hown a m c news hl hnews h1 h63 hbytes hbase
  refine ⟨v', w', hr, ho, hg.os, hg.tape, hg.output, hg.size, fun k hk hv => hg.block k hk (fun e => hv e.symm), ?_⟩
  have hown0 := hown
  rcases hown.2 with ⟨rfl, rfl⟩ | ⟨g, cap, cur, rfl, hbg, hgg, hnc, hcm, hcs, htake⟩
  · have hx : xs = [] := List.eq_nil_of_length_eq_zero (by simpa using hown.1)
    subst hx
    obtain ⟨v2, w2, hr2, ho2, _, _⟩ := run_append_own (P := P) w w.heap.size t ty e i z size bytes ht hi hz hsize hby hzs hsz _ 0 [] (World.ownsRow_nil _ _ _ _) a m c news hl hnews h1 h63 hbytes (Nat.le_refl _)
    rw [hr] at hr2
    cases hr2
    exact .inr fun k hk => (ho2.lt k hk).1
  · subst hsize
    subst hby
    by_cases hroom : n + m ≤ cap
    · have hfit : n * i.size + news.length ≤ cur.size := by rw [hl, hcs, ← Nat.add_mul]; exact Nat.mul_le_mul_right _ hroom
      have hr2 := run_append_room (P := P) w t ty e i ht hi g n cap cur hgg a m c news hl hnews h1 hroom hfit
      rw [hr] at hr2
      cases hr2
      exact .inl rfl
    · have holds : ∀ j u, xs[j]? = some u → w.cell? ((⟨g, 0, none⟩ : Addr).add j) = some u := hown.cells (g := g) rfl
      have hsmall : n + m ≤ 9223372036854775807 := by simp only [maxLen] at h63; omega
      have hr2 := run_append_grow (P := P) w t ty e i z ht hi hz ⟨g, 0, none⟩ n cap xs hown.1 holds a m c news hl hnews (by omega) (by omega) (growslice_fits (by omega) hbytes)
      rw [hr] at hr2
      cases hr2
      refine .inr fun k hk => ?_
      simp [Value.ownBlock] at hk
      omega
theorem wpList_append_ran {P : Program} {w : World} {ops : Array Oper} {rest : List Oper} {o : Oper} {a : Act} {Q : Exit → Act → World → Prop} (hgd : o.guard = none) (s x : Operand) (t ty : TypeId)
    (ho : o.op = .call { callee := .builtin .append, args := #[s, x], argTypes := #[t, t] }) (hty : o.type = ty) (v xv v' : Value) (w' : World) (hs : a.eval s = v) (hx : a.eval x = xv)
    (hr : (Builtin.append_ #[t, t] ty #[v, xv]).run P w = .ok v' w') (h : wpList P ops Q rest (a.put o.dst v') w') : wpList P ops Q (o :: rest) a w := by
  subst hty
  refine wpList_plain hgd fun K hK => ?_
  unfold Oper.wp
  simp [execOp, ho, resolve, invoke, builtin, hs, hx, hr, Result.andThen]
  exact hK _ _ h
/-- One byte more, laid in a block of its own first. -/
theorem append_byte (base : Nat) (v : Value) (n : Nat) (xs : List Value) (w : World) (x : Int) (hown : w.ownsRow base 5 1 v n xs) (hb : base ≤ w.heap.size) (hn : n + 1 ≤ 140737488355328) :
    ∃ v' w', (Builtin.append_ #[23, 23] 23 #[v, .slice (some ⟨w.heap.size, 0, none⟩) 1 1]).run Tryz.prog (w.alloc (.cells #[.int .u8 x] 5)) = .ok v' w' ∧ w'.ownsRow base 5 1 v' (n + 1) (xs ++ [.int .u8 x]) ∧ Grow w w' v v' := by
  obtain ⟨i0, hi, hz0, hz1, hz2⟩ := info_parts Tryz.info5
  obtain ⟨v', w', hr, ho, hg⟩ := run_append_mine (P := Tryz.prog) (w.alloc (.cells #[.int .u8 x] 5)) base 23 23 5 i0 (.int .u8 0) 1 1 Tryz.underlying23 hi hz0 hz1 hz2 rfl (by decide) v n xs (hown.alloc _) ⟨w.heap.size, 0, none⟩ 1 1 [.int .u8 x] rfl (cell_one_new _ _ _) (fun u hu => by simp at hu; subst hu; rfl) (by unfold maxLen; omega) (by omega) (by simp; omega)
  exact ⟨v', w', hr, ho, ((Grow.refl w v).alloc _).trans hg⟩
/-- A slice's bytes, from wherever they lie. -/
theorem append_bytes (base : Nat) (v : Value) (n : Nat) (xs : List Value) (w : World) (a : Option Addr) (len cap : Nat) (ys : List Int) (hown : w.ownsRow base 5 1 v n xs) (hb : base ≤ w.heap.size) (hr : Reads w a len cap ys) (hn : n + len ≤ 140737488355328) :
    ∃ v' w', (Builtin.append_ #[23, 23] 23 #[v, .slice a len cap]).run Tryz.prog w = .ok v' w' ∧ w'.ownsRow base 5 1 v' (n + len) (xs ++ ys.map (Value.int .u8)) ∧ Grow w w' v v' := by
  obtain ⟨i0, hi, hz0, hz1, hz2⟩ := info_parts Tryz.info5
  cases a with
  | none =>
    obtain ⟨rfl, rfl, rfl⟩ := reads_none hr
    exact ⟨v, w, run_append_owned_none (P := Tryz.prog) (w := w) base 23 23 5 i0 1 Tryz.underlying23 hi v n xs hown, by simpa using hown, Grow.refl w v⟩
  | some x => exact run_append_mine (P := Tryz.prog) w base 23 23 5 i0 (.int .u8 0) 1 1 Tryz.underlying23 hi hz0 hz1 hz2 rfl (by decide) v n xs hown x len cap (ys.map (Value.int .u8)) (by rw [List.length_map, hr.length, Nat.mul_one]) (reads_src hr) (one_u8 ys) (by unfold maxLen; omega) (by omega) hb
theorem own_kept {w w' : World} {base e size n : Nat} {v : Value} {xs : List Value} (h : w.ownsRow base e size v n xs) (hb : Below w.heap.size w w') : w'.ownsRow base e size v n xs :=
  h.kept (row := none) ⟨hb.os, hb.tape, hb.output, hb.size, fun k hk _ => hb.block k hk⟩ (by cases hv : v.ownBlock <;> simp)
theorem own_mono {w : World} {base base' e size n : Nat} {v : Value} {xs : List Value} (h : w.ownsRow base e size v n xs) (hb : base' ≤ base) : w.ownsRow base' e size v n xs := by
  refine ⟨h.1, h.2.imp id ?_⟩
  rintro ⟨g, cap, cur, h1, h2, h3⟩
  exact ⟨g, cap, cur, h1, Nat.le_trans hb h2, h3⟩
theorem own_shape {w : World} {base e size n : Nat} {v : Value} {xs : List Value} (h : w.ownsRow base e size v n xs) : ∃ a c, v = .slice a n c := by
  rcases h.2 with ⟨rfl, rfl⟩ | ⟨g, cap, cur, rfl, _⟩
  · exact ⟨none, 0, rfl⟩
  · exact ⟨_, _, rfl⟩
end Go.Proofs.YtnfdlnelfnigdaaGreatDoor.W
