/-
  Those of a list that are so; whether all are so; the first one that is so.
  A row appended to a row of one's own.
  slices.Insert of one field, wherever it goes.
  slices.Grow, slices.Concat.
  Two lists in order, put together: what stands in both, once.
-/
import Derived.Test.YtkifjpaoncjokaaGreatDoorCAA
import Derived.Test.YtkifjpaoncjokaaGreatDoorCTY
import Derived.Lib.AppendZerosOnto
import Derived.Lib.AppendZeros
import Derived.Test.YtkifjpaoncjokaaGreatDoorCTI
import Derived.Laws.CopyRow
import Derived.Laws.CopyOwn
import Derived.Lib.Overlaps
import Derived.Shelf.RegionOpenPlain
import Derived.Test.YtkifjpaoncjokaaGreatDoorCTA
namespace Go.Proofs.YtkifjpaoncjokaaGreatDoor
open Go.RowKit
set_option maxRecDepth 1000000
set_option linter.unusedVariables false
set_option linter.unusedSimpArgs false
set_option maxHeartbeats 1000000
/-- Old memory, but for v's own block. -/
def ZofA (w : World) (Y : Nat → Prop) (v : Value) (b : Nat) : Prop := Y b ∧ b < w.heap.size ∧ v.ownBlock ≠ some b
/-- A row of one's own, each struct as E says, in other memory. -/
def OwnA {α : Type} (w : World) (base : Nat) (Y : Nat → Prop) (t : TypeId) (k : Nat) (E : World → (Nat → Prop) → List Value → α → Prop) (v : Value) (xs : List α) : Prop :=
  ∃ ts : List (Tup k), w.ownsRow base t k v xs.length (ts.flatMap Subtype.val) ∧ ts.length = xs.length ∧ ∀ (i : Nat) (t : Tup k) (x : α), ts[i]? = some t → xs[i]? = some x → E w (ZofA w Y v) t.1 x
theorem OwnA.nil {α : Type} (w : World) (base : Nat) (Y : Nat → Prop) (t : TypeId) (k : Nat) (E : World → (Nat → Prop) → List Value → α → Prop) : OwnA w base Y t k E (.slice none 0 0) [] := ⟨[], World.ownsRow_nil _ _ _ _, rfl, fun i t x ht => by simp at ht⟩
theorem OwnA.shape {α : Type} {w : World} {base : Nat} {Y : Nat → Prop} {t : TypeId} {k : Nat} {E : World → (Nat → Prop) → List Value → α → Prop} {v : Value} {xs : List α} (h : OwnA w base Y t k E v xs) : ∃ a c, v = .slice a xs.length c := by
  obtain ⟨ts, h1, _⟩ := h
  exact own_shape h1
theorem OwnA.own {α : Type} {w : World} {base : Nat} {Y : Nat → Prop} {t : TypeId} {k : Nat} {E : World → (Nat → Prop) → List Value → α → Prop} {v : Value} {xs : List α} (h : OwnA w base Y t k E v xs) {b : Nat} (hb : v.ownBlock = some b) : base ≤ b ∧ b < w.heap.size := by
  obtain ⟨ts, h1, _⟩ := h
  have := own_type h1 hb
  exact ⟨this.1, this.2.1⟩
theorem OwnA.kept {α : Type} {w w' : World} {base : Nat} {Y : Nat → Prop} {t : TypeId} {k : Nat} {E : World → (Nat → Prop) → List Value → α → Prop} (F : Fam k E) {v : Value} {xs : List α} (h : OwnA w base Y t k E v xs) (hb : Below w.heap.size w w') : OwnA w' base Y t k E v xs := by
  obtain ⟨ts, h1, h2, h3⟩ := h
  exact ⟨ts, own_kept h1 hb, h2, fun i t x ht hx => F.go (h3 i t x ht hx) (keepT hb) (fun _ _ => trivial) (fun b hz => ⟨hz.1, Nat.lt_of_lt_of_le hz.2.1 hb.size, hz.2.2⟩)⟩
theorem OwnA.row {α : Type} {w : World} {base : Nat} {Y : Nat → Prop} {t : TypeId} {k : Nat} {E : World → (Nat → Prop) → List Value → α → Prop} (F : Fam k E) {v : Value} {xs : List α} (h : OwnA w base Y t k E v xs) (hn : xs.length ≤ 4000000) : RowM w (fun b => Y b ∨ base ≤ b) k (E w (fun b => Y b ∨ base ≤ b)) v xs := by
  obtain ⟨ts, h1, h2, h3⟩ := h
  exact ⟨ts, own_row h1 (fun b hb => Or.inr (own_type h1 hb).1), h2, hn, fun i t x ht hx => F.go (h3 i t x ht hx) (Keep.refl (fun _ => True) w) (fun _ _ => trivial) (fun b hz => Or.inl hz.1)⟩
/-- One struct more. -/
theorem OwnA.push {α : Type} {k : Nat} {E : World → (Nat → Prop) → List Value → α → Prop} (F : Fam k E) (t ts : TypeId) (bytes : Nat) (z : Value) (hts : Tryz.prog.underlying ts = some (.slice t)) (hinfo : (Tryz.prog.info? t).map (fun i => (i.zero, i.size, i.bytes)) = some (some z, k, bytes)) (hzs : z.cells.size = k) (h0 : 0 < k) (hby : bytes ≤ 400)
    {base : Nat} {Y : Nat → Prop} {v : Value} {xs : List α} {w : World} {cs : List Value} {x : α} (h : OwnA w base Y t k E v xs) (hx : E w (ZofA w Y v) cs x) (hb : base ≤ w.heap.size) (hn : xs.length ≤ 4000000) :
    ∃ a c w', Hid ((Builtin.append_ #[ts, ts] ts #[v, .slice (some ⟨w.heap.size, 0, none⟩) 1 1]).run Tryz.prog (w.alloc (.cells cs.toArray t)) = .ok (.slice a (xs.length + 1) c) w') ∧ Hid (OwnA w' base Y t k E (.slice a (xs.length + 1) c) (xs ++ [x])) ∧ Hid (Grow w w' v (.slice a (xs.length + 1) c)) := by
  obtain ⟨us, h1, h2, h3⟩ := h
  obtain ⟨v', w', r1, r2, r3⟩ := append_st t ts k bytes z hts hinfo hzs h0 hby base v xs.length (us.flatMap Subtype.val) w cs.toArray (by simp [F.len hx]) (by simpa using F.one hx) h1 hb hn
  obtain ⟨a, c, rfl⟩ := own_shape r2
  refine ⟨a, c, w', hid r1, hid ⟨us ++ [⟨cs, F.len hx⟩], ?_, by simp [h2], ?_⟩, hid r3⟩
  · rw [List.length_append, List.flatMap_append]
    simpa using r2
  · have hz : ∀ b, ZofA w Y v b → ZofA w' Y (.slice a (xs.length + 1) c) b := fun b hzb => by
      refine ⟨hzb.1, Nat.lt_of_lt_of_le hzb.2.1 r3.size, ?_⟩
      intro e
      rcases r3.own with q | q
      · rw [q] at e; exact hzb.2.2 e
      · have := q b e; have := hzb.2.1; omega
    have hk : Keep (fun b => v.ownBlock ≠ some b) w w' := Keep.ofGrow r3 (fun _ hk => hk)
    intro i u y hu hy
    by_cases hi : i < us.length
    · rw [List.getElem?_append_left hi] at hu
      rw [List.getElem?_append_left (by omega)] at hy
      exact F.go (h3 i u y hu hy) hk (fun b hz => hz.2.2) hz
    · have ei : i = us.length := by
        have := (List.getElem?_eq_some_iff.1 hu).1
        simp at this
        omega
      subst ei
      rw [List.getElem?_append_right (Nat.le_refl _), Nat.sub_self] at hu
      rw [h2, List.getElem?_append_right (Nat.le_refl _), Nat.sub_self] at hy
      simp at hu hy
      subst hu hy
      exact F.go hx hk (fun b hz => hz.2.2) hz
theorem OwnA.bel {α : Type} {w w' : World} {base : Nat} {Y : Nat → Prop} {t : TypeId} {k : Nat} {E : World → (Nat → Prop) → List Value → α → Prop} {v v' : Value} {xs : List α} (h : OwnA w base Y t k E v xs) (g : Grow w w' v v') {B : Nat} (hB : B ≤ base) (hs : B ≤ w.heap.size) : Below B w w' := g.below hs (fun b hb => Nat.le_trans hB (h.own hb).1)
theorem zofA_old {α : Type} {w w1 w2 : World} {Z : Nat → Prop} {t : TypeId} {k : Nat} {E : World → (Nat → Prop) → List Value → α → Prop} (F : Fam k E) {v : Value} {xs : List α} (h : OwnA w1 w.heap.size Z t k E v xs) {cs : List Value} {x : α} (hx : E w Z cs x) (hb : Below w.heap.size w w2) : E w2 (ZofA w2 Z v) cs x :=
  F.go (F.old hx) (keepT hb) (fun _ _ => trivial) (fun b hz => ⟨hz.1, Nat.lt_of_lt_of_le hz.2 hb.size, fun e => by have := (h.own e).1; have := hz.2; omega⟩)
theorem fl_le {α : Type} {xs : List α} {P : α → Bool} (h : xs.length ≤ 4000000) : (xs.filter P).length ≤ 4000000 := Nat.le_trans (List.length_filter_le _ _) h
theorem RowM.el {α : Type} {w : World} {Z : Nat → Prop} {k : Nat} {E : List Value → α → Prop} {v : Value} {xs : List α} (h : RowM w Z k E v xs) (hk : 0 < k) {i : Nat} (hi : i < xs.length) {cs : List Value} (hl : cs.length = k) {a : Option Addr} {n c b o : Nat} (ev : v = .slice a n c) (ea : a = some ⟨b, o, none⟩) (hc : ∀ j u, cs[j]? = some u → w.cell? ⟨b, o + i * k + j, none⟩ = some u) : E cs xs[i] := by
  subst ev
  obtain ⟨b', o', cs', e, -, -, hl', he, hc'⟩ := RowM.at h hk hi
  rw [ea] at e
  cases e
  have : cs = cs' := by
    apply List.ext_getElem?
    intro j
    by_cases hj : j < k
    · have e1 := hc j _ (List.getElem?_eq_getElem (show j < cs.length by omega))
      have e2 := hc' j _ (List.getElem?_eq_getElem (show j < cs'.length by omega))
      rw [e1] at e2
      rw [List.getElem?_eq_getElem (show j < cs.length by omega), List.getElem?_eq_getElem (show j < cs'.length by omega)]
      exact e2
    · rw [List.getElem?_eq_none (by omega), List.getElem?_eq_none (by omega)]
  rw [this]
  exact he
theorem everyF (w : World) (Z : Nat → Prop) (d : Nat) (xs : List (CF CM)) (a : Option Addr) (c : Nat) (h : FlsR w Z d (.slice a xs.length c) xs) (fn : FuncId) (caps : Array Value) (hcf : ∀ (args : Array Value) (W : World), (callFunc fn args).run Tryz.prog W = .ok (.enter fn args) W) (P : CF CM → Bool)
    (hf : ∀ (W : World), Below w.heap.size w W → ∀ (cs : List Value) (x : CF CM), x ∈ xs → FmF d W Z cs x → Calls Tryz.prog fn (#[.agg cs.toArray] ++ caps) W fun e w' => e = .returned (.bool (P x)) ∧ Below W.heap.size W w') : Calls Tryz.prog 115 #[.slice a xs.length c, .func (.func fn) #[] caps] w fun e w' => e = .returned (.bool (xs.all P)) ∧ Below w.heap.size w w' := by
  obtain ⟨_, _, e1, l1⟩ := RowM.sl h
  clear e1
  have m1 : (xs.length : Int) ≤ 9223372036854775807 := by omega
  have H1 := hid h
  have HF := hid hf
  clear h hf
  go_enter Tryz.func115, Tryz.ntmps115
  go_wp2
  go_loopw [9] (fun s9 wr => ∃ j : Nat, s9 = .int .i64 j ∧ j ≤ xs.length ∧ Hid (xs.all P = (xs.drop j).all P) ∧ Hid (Below w.heap.size w wr)) (fun s9 wr => xs.length - numAt wr s9)
  case atStart => exact ⟨0, rfl, by omega, hid rfl, hid (Below.refl _ _)⟩
  case round =>
    obtain ⟨j, rfl, hj, HA, hb⟩ := hrel
    by_cases hlt : j < xs.length
    · have k2 : (j : Int) < (xs.length : Int) := by omega
      obtain ⟨b1, o1, ka1, kc1, va1, vc1, rfl, -, hb1, c0, c1, c2, he⟩ := fls_at (H1.out.kept hb.out) hlt
      have HE := hid he
      have HD : Hid ((xs.drop j).all P = (P xs[j] && (xs.drop (j + 1)).all P)) := hid (by rw [List.drop_eq_getElem_cons hlt, List.all_cons])
      have HME := hid (List.getElem_mem hlt)
      clear he
      generalize xs[j] = x at *
      go_wp2_with fail
      refine (HF.out _ (by have := hb.out; exact blBy) [.int .i64 x.num, .slice ka1 x.ks.length kc1, .slice va1 x.vs.length vc1] x HME.out (Fam.go (famF d) HE.out (keepT (below_alloc _)) (fun _ _ => trivial) (fun _ h => h))).mono ?_
      rintro e w1 ⟨rfl, hbx⟩
      have hbw : Hid (Below w.heap.size w w1) := hid (bl_then (by have := hb.out; exact blBy) hbx)
      clear hbx c0 c1 c2
      cases hq : P x with
      | false =>
        have HX : Hid (xs.all P = false) := hid (by rw [HA.out, HD.out, hq]; rfl)
        go_wp2
        go_ret
        exact ⟨ret_bool HX.out.symm, hbw.out⟩
      | true =>
        have HX : Hid (xs.all P = (xs.drop (j + 1)).all P) := hid (by rw [HA.out, HD.out, hq]; rfl)
        go_wp2
        exact ⟨⟨j + 1, by simp, by omega, HX, hbw⟩, by simp [numAt]; omega⟩
    · have k2 : ¬ (j : Int) < (xs.length : Int) := by omega
      have HX : Hid (xs.all P = true) := hid (by rw [HA.out, List.drop_of_length_le (by omega)]; rfl)
      go_wp2
      go_ret
      exact ⟨ret_bool HX.out.symm, hb.out⟩
theorem everyE (w : World) (Z : Nat → Prop) (xs : List (CE)) (a : Option Addr) (c : Nat) (h : EnsR w Z (.slice a xs.length c) xs) (fn : FuncId) (caps : Array Value) (hcf : ∀ (args : Array Value) (W : World), (callFunc fn args).run Tryz.prog W = .ok (.enter fn args) W) (P : CE → Bool)
    (hf : ∀ (W : World), Below w.heap.size w W → ∀ (cs : List Value) (x : CE), x ∈ xs → FmE W Z cs x → Calls Tryz.prog fn (#[.agg cs.toArray] ++ caps) W fun e w' => e = .returned (.bool (P x)) ∧ Below W.heap.size W w') : Calls Tryz.prog 117 #[.slice a xs.length c, .func (.func fn) #[] caps] w fun e w' => e = .returned (.bool (xs.all P)) ∧ Below w.heap.size w w' := by
  obtain ⟨_, _, e1, l1⟩ := RowM.sl h
  clear e1
  have m1 : (xs.length : Int) ≤ 9223372036854775807 := by omega
  have H1 := hid h
  have HF := hid hf
  clear h hf
  go_enter Tryz.func117, Tryz.ntmps117
  go_wp2
  go_loopw [9] (fun s9 wr => ∃ j : Nat, s9 = .int .i64 j ∧ j ≤ xs.length ∧ Hid (xs.all P = (xs.drop j).all P) ∧ Hid (Below w.heap.size w wr)) (fun s9 wr => xs.length - numAt wr s9)
  case atStart => exact ⟨0, rfl, by omega, hid rfl, hid (Below.refl _ _)⟩
  case round =>
    obtain ⟨j, rfl, hj, HA, hb⟩ := hrel
    by_cases hlt : j < xs.length
    · have k2 : (j : Int) < (xs.length : Int) := by omega
      obtain ⟨b1, o1, ka1, kc1, rfl, -, hb1, c0, c1, c2, c3, he⟩ := ens_at (H1.out.kept hb.out) hlt
      have HE := hid he
      have HD : Hid ((xs.drop j).all P = (P xs[j] && (xs.drop (j + 1)).all P)) := hid (by rw [List.drop_eq_getElem_cons hlt, List.all_cons])
      have HME := hid (List.getElem_mem hlt)
      clear he
      generalize xs[j] = x at *
      go_wp2_with fail
      refine (HF.out _ (by have := hb.out; exact blBy) [.int .i64 x.num, .int .i64 x.kind, .int .u64 x.n, .slice ka1 x.b.length kc1] x HME.out (Fam.go (famE) HE.out (keepT (below_alloc _)) (fun _ _ => trivial) (fun _ h => h))).mono ?_
      rintro e w1 ⟨rfl, hbx⟩
      have hbw : Hid (Below w.heap.size w w1) := hid (bl_then (by have := hb.out; exact blBy) hbx)
      clear hbx c0 c1 c2 c3
      cases hq : P x with
      | false =>
        have HX : Hid (xs.all P = false) := hid (by rw [HA.out, HD.out, hq]; rfl)
        go_wp2
        go_ret
        exact ⟨ret_bool HX.out.symm, hbw.out⟩
      | true =>
        have HX : Hid (xs.all P = (xs.drop (j + 1)).all P) := hid (by rw [HA.out, HD.out, hq]; rfl)
        go_wp2
        exact ⟨⟨j + 1, by simp, by omega, HX, hbw⟩, by simp [numAt]; omega⟩
    · have k2 : ¬ (j : Int) < (xs.length : Int) := by omega
      have HX : Hid (xs.all P = true) := hid (by rw [HA.out, List.drop_of_length_le (by omega)]; rfl)
      go_wp2
      go_ret
      exact ⟨ret_bool HX.out.symm, hb.out⟩
theorem everyV (w : World) (Z : Nat → Prop) (d : Nat) (xs : List (CV CM)) (a : Option Addr) (c : Nat) (h : VlsR w Z d (.slice a xs.length c) xs) (fn : FuncId) (caps : Array Value) (hcf : ∀ (args : Array Value) (W : World), (callFunc fn args).run Tryz.prog W = .ok (.enter fn args) W) (P : CV CM → Bool)
    (hf : ∀ (W : World), Below w.heap.size w W → ∀ (cs : List Value) (x : CV CM), x ∈ xs → FmV d W Z cs x → Calls Tryz.prog fn (#[.agg cs.toArray] ++ caps) W fun e w' => e = .returned (.bool (P x)) ∧ Below W.heap.size W w') : Calls Tryz.prog 154 #[.slice a xs.length c, .func (.func fn) #[] caps] w fun e w' => e = .returned (.bool (xs.all P)) ∧ Below w.heap.size w w' := by
  obtain ⟨_, _, e1, l1⟩ := RowM.sl h
  clear e1
  have m1 : (xs.length : Int) ≤ 9223372036854775807 := by omega
  have H1 := hid h
  have HF := hid hf
  clear h hf
  go_enter Tryz.func154, Tryz.ntmps154
  go_wp2
  go_loopw [9] (fun s9 wr => ∃ j : Nat, s9 = .int .i64 j ∧ j ≤ xs.length ∧ Hid (xs.all P = (xs.drop j).all P) ∧ Hid (Below w.heap.size w wr)) (fun s9 wr => xs.length - numAt wr s9)
  case atStart => exact ⟨0, rfl, by omega, hid rfl, hid (Below.refl _ _)⟩
  case round =>
    obtain ⟨j, rfl, hj, HA, hb⟩ := hrel
    by_cases hlt : j < xs.length
    · have k2 : (j : Int) < (xs.length : Int) := by omega
      obtain ⟨b1, o1, ka1, kc1, va1, vc1, rfl, -, hb1, c0, c1, c2, he⟩ := vls_at (H1.out.kept hb.out) hlt
      have HE := hid he
      have HD : Hid ((xs.drop j).all P = (P xs[j] && (xs.drop (j + 1)).all P)) := hid (by rw [List.drop_eq_getElem_cons hlt, List.all_cons])
      have HME := hid (List.getElem_mem hlt)
      clear he
      generalize xs[j] = x at *
      go_wp2_with fail
      refine (HF.out _ (by have := hb.out; exact blBy) [.int .u64 x.n, .slice ka1 x.b.length kc1, .slice va1 x.ms.length vc1] x HME.out (Fam.go (famV d) HE.out (keepT (below_alloc _)) (fun _ _ => trivial) (fun _ h => h))).mono ?_
      rintro e w1 ⟨rfl, hbx⟩
      have hbw : Hid (Below w.heap.size w w1) := hid (bl_then (by have := hb.out; exact blBy) hbx)
      clear hbx c0 c1 c2
      cases hq : P x with
      | false =>
        have HX : Hid (xs.all P = false) := hid (by rw [HA.out, HD.out, hq]; rfl)
        go_wp2
        go_ret
        exact ⟨ret_bool HX.out.symm, hbw.out⟩
      | true =>
        have HX : Hid (xs.all P = (xs.drop (j + 1)).all P) := hid (by rw [HA.out, HD.out, hq]; rfl)
        go_wp2
        exact ⟨⟨j + 1, by simp, by omega, HX, hbw⟩, by simp [numAt]; omega⟩
    · have k2 : ¬ (j : Int) < (xs.length : Int) := by omega
      have HX : Hid (xs.all P = true) := hid (by rw [HA.out, List.drop_of_length_le (by omega)]; rfl)
      go_wp2
      go_ret
      exact ⟨ret_bool HX.out.symm, hb.out⟩
end Go.Proofs.YtkifjpaoncjokaaGreatDoor
namespace Go.Proofs.YtkifjpaoncjokaaGreatDoor
open Go.RowKit
set_option maxRecDepth 1000000
set_option linter.unusedVariables false
set_option linter.unusedSimpArgs false
theorem OwnA.app {α : Type} {k : Nat} {E : World → (Nat → Prop) → List Value → α → Prop} (F : Fam k E) (t ts : TypeId) (bytes : Nat) (z : Value) (hts : Tryz.prog.underlying ts = some (.slice t)) (hinfo : (Tryz.prog.info? t).map (fun i => (i.zero, i.size, i.bytes)) = some (some z, k, bytes)) (hzs : z.cells.size = k) (h0 : 0 < k) (hby : bytes ≤ 400)
    {base : Nat} {Y : Nat → Prop} {v : Value} {xs ys : List α} {w : World} {a : Option Addr} {c : Nat} (h : OwnA w base Y t k E v xs) (hy : RowM w (ZofA w Y v) k (E w (ZofA w Y v)) (.slice a ys.length c) ys) (hb : base ≤ w.heap.size) (hn : xs.length + ys.length ≤ 4000000) :
    ∃ a' c' w', Hid ((Builtin.append_ #[ts, ts] ts #[v, .slice a ys.length c]).run Tryz.prog w = .ok (.slice a' (xs.length + ys.length) c') w') ∧ Hid (OwnA w' base Y t k E (.slice a' (xs.length + ys.length) c') (xs ++ ys)) ∧ Hid (Grow w w' v (.slice a' (xs.length + ys.length) c')) := by
  obtain ⟨us, h1, h2, h3⟩ := h
  obtain ⟨ts2, ⟨a2, c2, e, hv⟩, g2, -, g3⟩ := hy
  cases e
  obtain ⟨i0, hi, hz0, hz1, hz2⟩ := info_parts hinfo
  have hone : ∀ u ∈ ts2.flatMap Subtype.val, u.oneCell' = true := by
    intro u hu
    obtain ⟨tt, ht, hut⟩ := List.mem_flatMap.1 hu
    obtain ⟨j, hj, rfl⟩ := List.mem_iff_getElem.1 ht
    exact F.one (g3 j _ _ (List.getElem?_eq_getElem hj) (List.getElem?_eq_getElem (by omega))) u hut
  have key : ∀ (ad : Addr), a = some ad → (∀ j u, (ts2.flatMap Subtype.val)[j]? = some u → w.cell? (ad.add j) = some u) → ∃ a' c' w', Hid ((Builtin.append_ #[ts, ts] ts #[v, .slice a ys.length c]).run Tryz.prog w = .ok (.slice a' (xs.length + ys.length) c') w') ∧ Hid (OwnA w' base Y t k E (.slice a' (xs.length + ys.length) c') (xs ++ ys)) ∧ Hid (Grow w w' v (.slice a' (xs.length + ys.length) c')) := by
    intro ad ea hc
    subst ea
    obtain ⟨v', w', r1, r2, r3⟩ := run_append_mine (P := Tryz.prog) w base ts ts t i0 z k bytes hts hi hz0 hz1 hz2 hzs h0 v xs.length (us.flatMap Subtype.val) h1 ad ys.length c (ts2.flatMap Subtype.val) hv.length hc hone (by unfold maxLen; omega) (Nat.le_trans (Nat.mul_le_mul hn hby) (by decide)) hb
    obtain ⟨a', c', rfl⟩ := own_shape r2
    refine ⟨a', c', w', hid r1, hid ⟨us ++ ts2, ?_, by simp [h2, g2], ?_⟩, hid r3⟩
    · rw [List.length_append, List.flatMap_append]
      exact r2
    · have hz : ∀ b, ZofA w Y v b → ZofA w' Y (.slice a' (xs.length + ys.length) c') b := fun b hzb => by
        refine ⟨hzb.1, Nat.lt_of_lt_of_le hzb.2.1 r3.size, ?_⟩
        intro e
        rcases r3.own with q | q
        · rw [q] at e; exact hzb.2.2 e
        · have := q b e; have := hzb.2.1; omega
      have hk : Keep (fun b => v.ownBlock ≠ some b) w w' := Keep.ofGrow r3 (fun _ hk => hk)
      intro i u y hu hy
      by_cases hi : i < us.length
      · rw [List.getElem?_append_left hi] at hu
        rw [List.getElem?_append_left (by omega)] at hy
        exact F.go (h3 i u y hu hy) hk (fun b hz => hz.2.2) hz
      · rw [List.getElem?_append_right (by omega)] at hu
        rw [List.getElem?_append_right (by omega), ← h2] at hy
        exact F.go (g3 _ u y hu hy) hk (fun b hz => hz.2.2) hz
  rcases hv.cells with ⟨hl0, hn0⟩ | ⟨b', off, rfl, _, hc⟩
  · have hy0 : ys = [] := List.eq_nil_of_length_eq_zero hl0
    subst hy0
    have ht0 : ts2 = [] := List.eq_nil_of_length_eq_zero (by simpa using g2)
    subst ht0
    cases a with
    | none =>
      have hc0 := hn0 rfl
      subst hc0
      obtain ⟨va, vc, rfl⟩ := own_shape h1
      refine ⟨va, vc, w, hid ?_, hid ?_, hid (Grow.refl _ _)⟩
      · exact run_append_owned_none (P := Tryz.prog) (w := w) base ts ts t i0 k hts hi _ xs.length (us.flatMap Subtype.val) h1
      · rw [List.append_nil]
        exact ⟨us, h1, h2, h3⟩
    | some ad => exact key ad rfl (fun j u hu => by simp at hu)
  · exact key ⟨b', off, none⟩ rfl (fun j u hu => by rw [Addr.add_lit]; exact hc j u hu)
end Go.Proofs.YtkifjpaoncjokaaGreatDoor
namespace Go.Proofs.YtkifjpaoncjokaaGreatDoor
open Go.RowKit
set_option maxRecDepth 1000000
set_option linter.unusedVariables false
set_option linter.unusedSimpArgs false
set_option maxHeartbeats 1000000
theorem wpList_appendz_ran {P : Program} {w : World} {ops : Array Oper} {rest : List Oper} {o : Oper} {a : Act} {Q : Exit → Act → World → Prop} (hgd : o.guard = none) (d s : Operand) (t t' : TypeId)
    (ho : o.op = .call { callee := .builtin .append, args := #[d, s], argTypes := #[t, t'] }) (v u : Value) (hd : a.eval d = v) (hs : a.eval s = u) {v' : Value} {w' : World}
    (hr : (Builtin.append_ #[t, t'] o.type #[v, u]).run P w = .ok v' w') (h : wpList P ops Q rest (a.put o.dst v') w') : wpList P ops Q (o :: rest) a w := by
  refine wpList_plain hgd fun K hK => ?_
  unfold Oper.wp
  simp [execOp, ho, resolve, invoke, builtin, hd, hs, hr, Result.andThen]
  exact hK _ _ h
theorem add_lit (b o j : Nat) : (⟨b, o, none⟩ : Addr).add j = ⟨b, o + j, none⟩ := by unfold Addr.add; split <;> simp_all
end Go.Proofs.YtkifjpaoncjokaaGreatDoor
namespace Go.Proofs.YtkifjpaoncjokaaGreatDoor
open Go.RowKit
set_option maxRecDepth 1000000
set_option linter.unusedVariables false
set_option linter.unusedSimpArgs false
set_option maxHeartbeats 1000000
/-- Lists one behind the other, as slices. -/
def rwV {α : Type} (r : Option Addr × Nat × List α) : Value := .slice r.1 r.2.2.length r.2.1
def rwL {α : Type} (l : List (Option Addr × Nat × List α)) : List α := l.flatMap (fun r => r.2.2)
theorem rwL_take {α : Type} {l : List (Option Addr × Nat × List α)} {j : Nat} (h : j < l.length) : rwL (l.take (j + 1)) = rwL (l.take j) ++ l[j].2.2 := by
  unfold rwL
  rw [List.take_succ_eq_append_getElem h, List.flatMap_append]
  simp
theorem rwL_le {α : Type} : ∀ (l : List (Option Addr × Nat × List α)) (j : Nat), (rwL (l.take j)).length ≤ (rwL l).length
  | [], j => by simp
  | r :: l, 0 => by simp [rwL]
  | r :: l, j + 1 => by
    have := rwL_le l j
    unfold rwL at *
    rw [List.take_succ_cons, List.flatMap_cons, List.flatMap_cons, List.length_append, List.length_append]
    omega
theorem rowA_old {α : Type} {w w1 : World} {Z : Nat → Prop} {t : TypeId} {k : Nat} {E : World → (Nat → Prop) → List Value → α → Prop} (F : Fam k E) (hk : 0 < k) {v u : Value} {xs ys : List α} (h : OwnA w1 w.heap.size Z t k E v xs) (hy : RowM w Z k (E w Z) u ys) (hb : Below w.heap.size w w1) : RowM w1 (ZofA w1 Z v) k (E w1 (ZofA w1 Z v)) u ys :=
  ((RowM.keep (RowM.old hk hy (fun _ _ _ h => h)) (keepT hb) (fun _ _ => trivial)).weak (fun b hz => ⟨hz.1, Nat.lt_of_lt_of_le hz.2 hb.size, fun e => by have := (h.own e).1; have := hz.2; omega⟩)).imp (fun cs x _ hx => zofA_old F h hx hb)
theorem growEntry (w : World) (n : Nat) (hn : n ≤ 4000000) : Calls Tryz.prog 88 #[.slice none 0 0, .int .i64 (n : Int)] w fun e w' => ∃ a c, e = .returned (.slice a 0 c) ∧ w'.ownsRow w.heap.size 118 4 (.slice a 0 c) 0 [] ∧ Below w.heap.size w w' := by
  by_cases h0 : n = 0
  · subst h0
    go_enter Tryz.func88, Tryz.ntmps88
    go_wp2
    go_ret
    exact ⟨none, 0, rfl, World.ownsRow_nil _ _ _ _, by exact blBy⟩
  · obtain ⟨i0, hi0, hz0, hzs, hzb⟩ := info_parts Tryz.infoE
    have HA := fun ty => Lib.run_append_grow_zeros (P := Tryz.prog) w 27 3 ty 118 i0 _ .i64 .i64 Tryz.underlying27 Tryz.underlying3 hi0 hz0 none 0 0 [] (by rw [hzs]; exact run_firstCells_none w.drew 4 0 0 0) n (by omega) (by omega) (by omega) (by omega) (by rw [hzb]; omega) (by rw [hzb]; exact growslice_fits (by omega) (by omega))
    simp only [Nat.zero_add] at HA
    obtain ⟨G, hG⟩ : ∃ G, G = grownCap w n 0 118 := ⟨_, rfl⟩
    have hGn : n ≤ G := by rw [hG]; exact grownCap_ge w _ _ _
    have hGm : G ≤ maxLen := by rw [hG]; exact grownCap_le_maxLen w _ _ _ (by unfold maxLen; omega)
    simp only [← hG] at HA
    clear hG
    obtain ⟨ROW, hROW⟩ : ∃ ROW : Array Value, ROW = ([] : List Value).toArray ++ Builtin.zeroCells (Value.cells (.agg #[.int .i64 0, .int .i64 0, .int .u64 0, .slice none 0 0])) n ++ Builtin.zeroCells (Value.cells (.agg #[.int .i64 0, .int .i64 0, .int .u64 0, .slice none 0 0])) (G - n) := ⟨_, rfl⟩
    have hRS : ROW.size = G * 4 := by
      rw [hROW]
      simp only [Array.size_append, List.size_toArray, Builtin.zeroCells, Array.size_map, Array.size_range]
      simp only [Value.cells]
      show 0 + n * 4 + (G - n) * 4 = G * 4
      omega
    simp only [← hROW] at HA
    clear hROW
    have HAA := hid HA
    have HFIN : Hid (∀ W : World, W.heap = (w.drew.alloc (.cells ROW 118)).heap → W.ownsRow w.heap.size 118 4 (.slice (some ⟨w.heap.size, 0, none⟩) 0 G) 0 []) := hid fun W hW => ⟨rfl, .inr ⟨w.heap.size, G, ROW, rfl, Nat.le_refl _, by rw [hW]; show (w.heap.push _)[w.heap.size]? = _; simp, Nat.zero_le _, hGm, hRS, by simp⟩⟩
    have k1 : (0 : Int) < (n : Int) := by omega
    have k2 : ((n : Int) < 0) = False := eq_false (by omega)
    have k3 : (n : Int) ≤ 9223372036854775807 := by omega
    have k5 : (G : Int) ≤ 9223372036854775807 := by unfold maxLen at hGm; omega
    have k6 : (0 : Int) ≤ (G : Int) := by omega
    clear HA hRS hGm hi0 hz0 hzs hzb
    go_enter Tryz.func88, Tryz.ntmps88
    go_wp2_with (first | (at_builtin; refine wpList_appendz_ran rfl _ _ _ _ rfl _ _ rfl rfl (HAA.out _) ?_))
    go_wp2
    go_ret
    exact ⟨_, G, rfl, HFIN.out _ rfl, by exact blBy⟩
theorem concatEntry (w : World) (Z : Nat → Prop) (rows : List (Option Addr × Nat × List (CE))) (p : Nat) (hp : Blk w p 27 (rows.map rwV).toArray) (hr : ∀ r ∈ rows, RowM w Z 4 (FmE w Z) (rwV r) r.2.2) (hn : (rwL rows).length ≤ 4000000) (hm : rows.length ≤ 1000) : Calls Tryz.prog 58 #[.slice (some ⟨p, 0, none⟩) rows.length rows.length] w fun e w' => ∃ a c, e = .returned (.slice a (rwL rows).length c) ∧ OwnA w' w.heap.size Z 118 4 FmE (.slice a (rwL rows).length c) (rwL rows) ∧ Below w.heap.size w w' := by
  have HP := hid hp
  have HR := hid hr
  have m1 : (rows.length : Int) ≤ 9223372036854775807 := by omega
  clear hp hr
  go_enter Tryz.func58, Tryz.ntmps58
  go_wp2
  go_loopw [3, 11] (fun s3 s11 wr => ∃ (j n : Nat), s3 = .int .i64 (n : Int) ∧ s11 = .int .i64 (j : Int) ∧ j ≤ rows.length ∧ Hid ((rwL (rows.take j)).length = n) ∧ n ≤ 4000000 ∧ wr = w) (fun s3 s11 wr => rows.length - numAt wr s11)
  case atStart => exact ⟨0, 0, rfl, rfl, by omega, hid rfl, by omega, rfl⟩
  case round =>
    obtain ⟨j, n, rfl, rfl, hj, HN, hn4, rfl⟩ := hrel
    by_cases hlt : j < rows.length
    · have k2 : (j : Int) < (rows.length : Int) := by omega
      have hc : wr.cell? ⟨p, j, none⟩ = some (rwV rows[j]) := HP.out.cell j _ (by simp [hlt])
      have zp := HP.out.lt
      have HT := hid (rwL_take hlt)
      have HL : Hid ((rwL (rows.take (j + 1))).length ≤ 4000000) := hid (Nat.le_trans (rwL_le rows (j + 1)) hn)
      generalize rows[j] = r at *
      obtain ⟨ra, rc, rx⟩ := r
      unfold rwV at hc
      dsimp only at hc HT
      have hs : n + rx.length ≤ 4000000 := by have := HL.out; rw [HT.out, List.length_append, HN.out] at this; exact this
      have hw : IntKind.i64.wrap ((n : Int) + (rx.length : Int)) = (n : Int) + (rx.length : Int) := by rw [IntKind.wrap_i64]; omega
      have hz : ((n : Int) + (rx.length : Int) < 0) = False := eq_false (by omega)
      have hl9 : (rx.length : Int) ≤ 9223372036854775807 := by omega
      go_wp2
      exact ⟨⟨j + 1, n + rx.length, by simp, by simp, by omega, hid (by rw [HT.out, List.length_append, HN.out]), hs, trivial⟩, by simp [numAt]; omega⟩
    · have k2 : ¬ (j : Int) < (rows.length : Int) := by omega
      have e1 : rows.take j = rows := List.take_of_length_le (by omega)
      rw [e1] at HN
      clear e1
      go_wp2_with fail
      refine (growEntry _ n hn4).mono ?_
      rintro e w1 ⟨ga, gc, rfl, ho, hb⟩
      have HO : Hid (OwnA w1 wr.heap.size Z 118 4 FmE (.slice ga 0 gc) []) := hid ⟨[], ho, rfl, fun i t x ht => by simp at ht⟩
      have HB := hid hb
      clear ho hb hlt hj
      go_wp2
      clear k2 HN
      go_loopw [6, 27] (fun s6 s27 wx => ∃ (j m : Nat) (a : Option Addr) (c : Nat), s6 = .slice a m c ∧ s27 = .int .i64 (j : Int) ∧ j ≤ rows.length ∧ Hid ((rwL (rows.take j)).length = m) ∧ Hid (OwnA wx wr.heap.size Z 118 4 FmE (.slice a m c) (rwL (rows.take j))) ∧ Hid (Below wr.heap.size wr wx)) (fun s6 s27 wx => rows.length - numAt wx s27)
      case atStart => exact ⟨0, 0, ga, gc, rfl, rfl, by omega, hid rfl, HO, HB⟩
      case round =>
        clear HO HB
        obtain ⟨j, m, oa, oc, rfl, rfl, hj, HM, HO, HB⟩ := hrel
        by_cases hlt : j < rows.length
        · have k2 : (j : Int) < (rows.length : Int) := by omega
          have HP1 := hid (HP.out.kept HB.out)
          have hc := HP1.out.cell j (rwV rows[j]) (by simp [hlt])
          have zp := HP1.out.lt
          have HT := hid (rwL_take hlt)
          have HL : Hid ((rwL (rows.take (j + 1))).length ≤ 4000000) := hid (Nat.le_trans (rwL_le rows (j + 1)) hn)
          have HQ := hid (rowA_old famE (by decide) HO.out (HR.out _ (List.getElem_mem hlt)) HB.out)
          generalize rows[j] = r at *
          obtain ⟨ra, rc, rx⟩ := r
          unfold rwV at hc HQ
          dsimp only at hc HT HQ
          have hs : (rwL (rows.take j)).length + rx.length ≤ 4000000 := by have := HL.out; rw [HT.out, List.length_append] at this; exact this
          obtain ⟨la, lc, x1, HRUN, HO2, HG⟩ := OwnA.app famE 118 27 48 (.agg #[.int .i64 0, .int .i64 0, .int .u64 0, .slice none 0 0]) Tryz.underlying27 Tryz.infoE rfl (by decide) (by decide) HO.out HQ.out HB.out.size hs
          rw [HM.out] at HRUN HO2 HG
          have HB2 := hid (HB.out.trans (HO.out.bel HG.out (Nat.le_refl _) HB.out.size))
          have hl9 : (rx.length : Int) ≤ 9223372036854775807 := by omega
          clear hs HL HQ HG HB HP1
          go_wp2_with (first | (at_builtin; refine wpList_append_ran rfl _ _ 27 27 rfl rfl _ _ (.slice la (m + rx.length) lc) x1 rfl rfl HRUN.out ?_))
          exact ⟨⟨j + 1, m + rx.length, la, lc, rfl, by simp, by omega, hid (by rw [HT.out, List.length_append, HM.out]), hid (by rw [HT.out]; exact HO2.out), HB2⟩, by simp [numAt]; omega⟩
        · have k2 : ¬ (j : Int) < (rows.length : Int) := by omega
          have e1 : rows.take j = rows := List.take_of_length_le (by omega)
          rw [e1] at HO HM
          clear e1
          rw [← HM.out] at HO ⊢
          clear HM
          go_wp2
          go_ret
          exact ⟨oa, oc, rfl, HO.out, HB.out⟩
theorem growVal (w : World) (n : Nat) (hn : n ≤ 4000000) : Calls Tryz.prog 103 #[.slice none 0 0, .int .i64 (n : Int)] w fun e w' => ∃ a c, e = .returned (.slice a 0 c) ∧ w'.ownsRow w.heap.size 39 3 (.slice a 0 c) 0 [] ∧ Below w.heap.size w w' := by
  by_cases h0 : n = 0
  · subst h0
    go_enter Tryz.func103, Tryz.ntmps103
    go_wp2
    go_ret
    exact ⟨none, 0, rfl, World.ownsRow_nil _ _ _ _, by exact blBy⟩
  · obtain ⟨i0, hi0, hz0, hzs, hzb⟩ := info_parts Tryz.infoV
    have HA := fun ty => Lib.run_append_grow_zeros (P := Tryz.prog) w 31 3 ty 39 i0 _ .i64 .i64 Tryz.underlying31 Tryz.underlying3 hi0 hz0 none 0 0 [] (by rw [hzs]; exact run_firstCells_none w.drew 3 0 0 0) n (by omega) (by omega) (by omega) (by omega) (by rw [hzb]; omega) (by rw [hzb]; exact growslice_fits (by omega) (by omega))
    simp only [Nat.zero_add] at HA
    obtain ⟨G, hG⟩ : ∃ G, G = grownCap w n 0 39 := ⟨_, rfl⟩
    have hGn : n ≤ G := by rw [hG]; exact grownCap_ge w _ _ _
    have hGm : G ≤ maxLen := by rw [hG]; exact grownCap_le_maxLen w _ _ _ (by unfold maxLen; omega)
    simp only [← hG] at HA
    clear hG
    obtain ⟨ROW, hROW⟩ : ∃ ROW : Array Value, ROW = ([] : List Value).toArray ++ Builtin.zeroCells (Value.cells (.agg #[.int .u64 0, .slice none 0 0, .slice none 0 0])) n ++ Builtin.zeroCells (Value.cells (.agg #[.int .u64 0, .slice none 0 0, .slice none 0 0])) (G - n) := ⟨_, rfl⟩
    have hRS : ROW.size = G * 3 := by
      rw [hROW]
      simp only [Array.size_append, List.size_toArray, Builtin.zeroCells, Array.size_map, Array.size_range]
      simp only [Value.cells]
      show 0 + n * 3 + (G - n) * 3 = G * 3
      omega
    simp only [← hROW] at HA
    clear hROW
    have HAA := hid HA
    have HFIN : Hid (∀ W : World, W.heap = (w.drew.alloc (.cells ROW 39)).heap → W.ownsRow w.heap.size 39 3 (.slice (some ⟨w.heap.size, 0, none⟩) 0 G) 0 []) := hid fun W hW => ⟨rfl, .inr ⟨w.heap.size, G, ROW, rfl, Nat.le_refl _, by rw [hW]; show (w.heap.push _)[w.heap.size]? = _; simp, Nat.zero_le _, hGm, hRS, by simp⟩⟩
    have k1 : (0 : Int) < (n : Int) := by omega
    have k2 : ((n : Int) < 0) = False := eq_false (by omega)
    have k3 : (n : Int) ≤ 9223372036854775807 := by omega
    have k5 : (G : Int) ≤ 9223372036854775807 := by unfold maxLen at hGm; omega
    have k6 : (0 : Int) ≤ (G : Int) := by omega
    clear HA hRS hGm hi0 hz0 hzs hzb
    go_enter Tryz.func103, Tryz.ntmps103
    go_wp2_with (first | (at_builtin; refine wpList_appendz_ran rfl _ _ _ _ rfl _ _ rfl rfl (HAA.out _) ?_))
    go_wp2
    go_ret
    exact ⟨_, G, rfl, HFIN.out _ rfl, by exact blBy⟩
theorem concatVal (d : Nat) (w : World) (Z : Nat → Prop) (rows : List (Option Addr × Nat × List (CV CM))) (p : Nat) (hp : Blk w p 31 (rows.map rwV).toArray) (hr : ∀ r ∈ rows, RowM w Z 3 ((FmV d) w Z) (rwV r) r.2.2) (hn : (rwL rows).length ≤ 4000000) (hm : rows.length ≤ 1000) : Calls Tryz.prog 84 #[.slice (some ⟨p, 0, none⟩) rows.length rows.length] w fun e w' => ∃ a c, e = .returned (.slice a (rwL rows).length c) ∧ OwnA w' w.heap.size Z 39 3 (FmV d) (.slice a (rwL rows).length c) (rwL rows) ∧ Below w.heap.size w w' := by
  have HP := hid hp
  have HR := hid hr
  have m1 : (rows.length : Int) ≤ 9223372036854775807 := by omega
  clear hp hr
  go_enter Tryz.func84, Tryz.ntmps84
  go_wp2
  go_loopw [3, 11] (fun s3 s11 wr => ∃ (j n : Nat), s3 = .int .i64 (n : Int) ∧ s11 = .int .i64 (j : Int) ∧ j ≤ rows.length ∧ Hid ((rwL (rows.take j)).length = n) ∧ n ≤ 4000000 ∧ wr = w) (fun s3 s11 wr => rows.length - numAt wr s11)
  case atStart => exact ⟨0, 0, rfl, rfl, by omega, hid rfl, by omega, rfl⟩
  case round =>
    obtain ⟨j, n, rfl, rfl, hj, HN, hn4, rfl⟩ := hrel
    by_cases hlt : j < rows.length
    · have k2 : (j : Int) < (rows.length : Int) := by omega
      have hc : wr.cell? ⟨p, j, none⟩ = some (rwV rows[j]) := HP.out.cell j _ (by simp [hlt])
      have zp := HP.out.lt
      have HT := hid (rwL_take hlt)
      have HL : Hid ((rwL (rows.take (j + 1))).length ≤ 4000000) := hid (Nat.le_trans (rwL_le rows (j + 1)) hn)
      generalize rows[j] = r at *
      obtain ⟨ra, rc, rx⟩ := r
      unfold rwV at hc
      dsimp only at hc HT
      have hs : n + rx.length ≤ 4000000 := by have := HL.out; rw [HT.out, List.length_append, HN.out] at this; exact this
      have hw : IntKind.i64.wrap ((n : Int) + (rx.length : Int)) = (n : Int) + (rx.length : Int) := by rw [IntKind.wrap_i64]; omega
      have hz : ((n : Int) + (rx.length : Int) < 0) = False := eq_false (by omega)
      have hl9 : (rx.length : Int) ≤ 9223372036854775807 := by omega
      go_wp2
      exact ⟨⟨j + 1, n + rx.length, by simp, by simp, by omega, hid (by rw [HT.out, List.length_append, HN.out]), hs, trivial⟩, by simp [numAt]; omega⟩
    · have k2 : ¬ (j : Int) < (rows.length : Int) := by omega
      have e1 : rows.take j = rows := List.take_of_length_le (by omega)
      rw [e1] at HN
      clear e1
      go_wp2_with fail
      refine (growVal _ n hn4).mono ?_
      rintro e w1 ⟨ga, gc, rfl, ho, hb⟩
      have HO : Hid (OwnA w1 wr.heap.size Z 39 3 (FmV d) (.slice ga 0 gc) []) := hid ⟨[], ho, rfl, fun i t x ht => by simp at ht⟩
      have HB := hid hb
      clear ho hb hlt hj
      go_wp2
      clear k2 HN
      go_loopw [6, 27] (fun s6 s27 wx => ∃ (j m : Nat) (a : Option Addr) (c : Nat), s6 = .slice a m c ∧ s27 = .int .i64 (j : Int) ∧ j ≤ rows.length ∧ Hid ((rwL (rows.take j)).length = m) ∧ Hid (OwnA wx wr.heap.size Z 39 3 (FmV d) (.slice a m c) (rwL (rows.take j))) ∧ Hid (Below wr.heap.size wr wx)) (fun s6 s27 wx => rows.length - numAt wx s27)
      case atStart => exact ⟨0, 0, ga, gc, rfl, rfl, by omega, hid rfl, HO, HB⟩
      case round =>
        clear HO HB
        obtain ⟨j, m, oa, oc, rfl, rfl, hj, HM, HO, HB⟩ := hrel
        by_cases hlt : j < rows.length
        · have k2 : (j : Int) < (rows.length : Int) := by omega
          have HP1 := hid (HP.out.kept HB.out)
          have hc := HP1.out.cell j (rwV rows[j]) (by simp [hlt])
          have zp := HP1.out.lt
          have HT := hid (rwL_take hlt)
          have HL : Hid ((rwL (rows.take (j + 1))).length ≤ 4000000) := hid (Nat.le_trans (rwL_le rows (j + 1)) hn)
          have HQ := hid (rowA_old (famV d) (by decide) HO.out (HR.out _ (List.getElem_mem hlt)) HB.out)
          generalize rows[j] = r at *
          obtain ⟨ra, rc, rx⟩ := r
          unfold rwV at hc HQ
          dsimp only at hc HT HQ
          have hs : (rwL (rows.take j)).length + rx.length ≤ 4000000 := by have := HL.out; rw [HT.out, List.length_append] at this; exact this
          obtain ⟨la, lc, x1, HRUN, HO2, HG⟩ := OwnA.app (famV d) 39 31 56 (.agg #[.int .u64 0, .slice none 0 0, .slice none 0 0]) Tryz.underlying31 Tryz.infoV rfl (by decide) (by decide) HO.out HQ.out HB.out.size hs
          rw [HM.out] at HRUN HO2 HG
          have HB2 := hid (HB.out.trans (HO.out.bel HG.out (Nat.le_refl _) HB.out.size))
          have hl9 : (rx.length : Int) ≤ 9223372036854775807 := by omega
          clear hs HL HQ HG HB HP1
          go_wp2_with (first | (at_builtin; refine wpList_append_ran rfl _ _ 31 31 rfl rfl _ _ (.slice la (m + rx.length) lc) x1 rfl rfl HRUN.out ?_))
          exact ⟨⟨j + 1, m + rx.length, la, lc, rfl, by simp, by omega, hid (by rw [HT.out, List.length_append, HM.out]), hid (by rw [HT.out]; exact HO2.out), HB2⟩, by simp [numAt]; omega⟩
        · have k2 : ¬ (j : Int) < (rows.length : Int) := by omega
          have e1 : rows.take j = rows := List.take_of_length_le (by omega)
          rw [e1] at HO HM
          clear e1
          rw [← HM.out] at HO ⊢
          clear HM
          go_wp2
          go_ret
          exact ⟨oa, oc, rfl, HO.out, HB.out⟩
theorem growField (w : World) (n : Nat) (hn : n ≤ 4000000) : Calls Tryz.prog 109 #[.slice none 0 0, .int .i64 (n : Int)] w fun e w' => ∃ a c, e = .returned (.slice a 0 c) ∧ w'.ownsRow w.heap.size 33 3 (.slice a 0 c) 0 [] ∧ Below w.heap.size w w' := by
  by_cases h0 : n = 0
  · subst h0
    go_enter Tryz.func109, Tryz.ntmps109
    go_wp2
    go_ret
    exact ⟨none, 0, rfl, World.ownsRow_nil _ _ _ _, by exact blBy⟩
  · obtain ⟨i0, hi0, hz0, hzs, hzb⟩ := info_parts Tryz.infoF
    have HA := fun ty => Lib.run_append_grow_zeros (P := Tryz.prog) w 26 3 ty 33 i0 _ .i64 .i64 Tryz.underlying26 Tryz.underlying3 hi0 hz0 none 0 0 [] (by rw [hzs]; exact run_firstCells_none w.drew 3 0 0 0) n (by omega) (by omega) (by omega) (by omega) (by rw [hzb]; omega) (by rw [hzb]; exact growslice_fits (by omega) (by omega))
    simp only [Nat.zero_add] at HA
    obtain ⟨G, hG⟩ : ∃ G, G = grownCap w n 0 33 := ⟨_, rfl⟩
    have hGn : n ≤ G := by rw [hG]; exact grownCap_ge w _ _ _
    have hGm : G ≤ maxLen := by rw [hG]; exact grownCap_le_maxLen w _ _ _ (by unfold maxLen; omega)
    simp only [← hG] at HA
    clear hG
    obtain ⟨ROW, hROW⟩ : ∃ ROW : Array Value, ROW = ([] : List Value).toArray ++ Builtin.zeroCells (Value.cells (.agg #[.int .i64 0, .slice none 0 0, .slice none 0 0])) n ++ Builtin.zeroCells (Value.cells (.agg #[.int .i64 0, .slice none 0 0, .slice none 0 0])) (G - n) := ⟨_, rfl⟩
    have hRS : ROW.size = G * 3 := by
      rw [hROW]
      simp only [Array.size_append, List.size_toArray, Builtin.zeroCells, Array.size_map, Array.size_range]
      simp only [Value.cells]
      show 0 + n * 3 + (G - n) * 3 = G * 3
      omega
    simp only [← hROW] at HA
    clear hROW
    have HAA := hid HA
    have HFIN : Hid (∀ W : World, W.heap = (w.drew.alloc (.cells ROW 33)).heap → W.ownsRow w.heap.size 33 3 (.slice (some ⟨w.heap.size, 0, none⟩) 0 G) 0 []) := hid fun W hW => ⟨rfl, .inr ⟨w.heap.size, G, ROW, rfl, Nat.le_refl _, by rw [hW]; show (w.heap.push _)[w.heap.size]? = _; simp, Nat.zero_le _, hGm, hRS, by simp⟩⟩
    have k1 : (0 : Int) < (n : Int) := by omega
    have k2 : ((n : Int) < 0) = False := eq_false (by omega)
    have k3 : (n : Int) ≤ 9223372036854775807 := by omega
    have k5 : (G : Int) ≤ 9223372036854775807 := by unfold maxLen at hGm; omega
    have k6 : (0 : Int) ≤ (G : Int) := by omega
    clear HA hRS hGm hi0 hz0 hzs hzb
    go_enter Tryz.func109, Tryz.ntmps109
    go_wp2_with (first | (at_builtin; refine wpList_appendz_ran rfl _ _ _ _ rfl _ _ rfl rfl (HAA.out _) ?_))
    go_wp2
    go_ret
    exact ⟨_, G, rfl, HFIN.out _ rfl, by exact blBy⟩
theorem concatField (d : Nat) (w : World) (Z : Nat → Prop) (rows : List (Option Addr × Nat × List (CF CM))) (p : Nat) (hp : Blk w p 26 (rows.map rwV).toArray) (hr : ∀ r ∈ rows, RowM w Z 3 ((FmF d) w Z) (rwV r) r.2.2) (hn : (rwL rows).length ≤ 4000000) (hm : rows.length ≤ 1000) : Calls Tryz.prog 86 #[.slice (some ⟨p, 0, none⟩) rows.length rows.length] w fun e w' => ∃ a c, e = .returned (.slice a (rwL rows).length c) ∧ OwnA w' w.heap.size Z 33 3 (FmF d) (.slice a (rwL rows).length c) (rwL rows) ∧ Below w.heap.size w w' := by
  have HP := hid hp
  have HR := hid hr
  have m1 : (rows.length : Int) ≤ 9223372036854775807 := by omega
  clear hp hr
  go_enter Tryz.func86, Tryz.ntmps86
  go_wp2
  go_loopw [3, 11] (fun s3 s11 wr => ∃ (j n : Nat), s3 = .int .i64 (n : Int) ∧ s11 = .int .i64 (j : Int) ∧ j ≤ rows.length ∧ Hid ((rwL (rows.take j)).length = n) ∧ n ≤ 4000000 ∧ wr = w) (fun s3 s11 wr => rows.length - numAt wr s11)
  case atStart => exact ⟨0, 0, rfl, rfl, by omega, hid rfl, by omega, rfl⟩
  case round =>
    obtain ⟨j, n, rfl, rfl, hj, HN, hn4, rfl⟩ := hrel
    by_cases hlt : j < rows.length
    · have k2 : (j : Int) < (rows.length : Int) := by omega
      have hc : wr.cell? ⟨p, j, none⟩ = some (rwV rows[j]) := HP.out.cell j _ (by simp [hlt])
      have zp := HP.out.lt
      have HT := hid (rwL_take hlt)
      have HL : Hid ((rwL (rows.take (j + 1))).length ≤ 4000000) := hid (Nat.le_trans (rwL_le rows (j + 1)) hn)
      generalize rows[j] = r at *
      obtain ⟨ra, rc, rx⟩ := r
      unfold rwV at hc
      dsimp only at hc HT
      have hs : n + rx.length ≤ 4000000 := by have := HL.out; rw [HT.out, List.length_append, HN.out] at this; exact this
      have hw : IntKind.i64.wrap ((n : Int) + (rx.length : Int)) = (n : Int) + (rx.length : Int) := by rw [IntKind.wrap_i64]; omega
      have hz : ((n : Int) + (rx.length : Int) < 0) = False := eq_false (by omega)
      have hl9 : (rx.length : Int) ≤ 9223372036854775807 := by omega
      go_wp2
      exact ⟨⟨j + 1, n + rx.length, by simp, by simp, by omega, hid (by rw [HT.out, List.length_append, HN.out]), hs, trivial⟩, by simp [numAt]; omega⟩
    · have k2 : ¬ (j : Int) < (rows.length : Int) := by omega
      have e1 : rows.take j = rows := List.take_of_length_le (by omega)
      rw [e1] at HN
      clear e1
      go_wp2_with fail
      refine (growField _ n hn4).mono ?_
      rintro e w1 ⟨ga, gc, rfl, ho, hb⟩
      have HO : Hid (OwnA w1 wr.heap.size Z 33 3 (FmF d) (.slice ga 0 gc) []) := hid ⟨[], ho, rfl, fun i t x ht => by simp at ht⟩
      have HB := hid hb
      clear ho hb hlt hj
      go_wp2
      clear k2 HN
      go_loopw [6, 27] (fun s6 s27 wx => ∃ (j m : Nat) (a : Option Addr) (c : Nat), s6 = .slice a m c ∧ s27 = .int .i64 (j : Int) ∧ j ≤ rows.length ∧ Hid ((rwL (rows.take j)).length = m) ∧ Hid (OwnA wx wr.heap.size Z 33 3 (FmF d) (.slice a m c) (rwL (rows.take j))) ∧ Hid (Below wr.heap.size wr wx)) (fun s6 s27 wx => rows.length - numAt wx s27)
      case atStart => exact ⟨0, 0, ga, gc, rfl, rfl, by omega, hid rfl, HO, HB⟩
      case round =>
        clear HO HB
        obtain ⟨j, m, oa, oc, rfl, rfl, hj, HM, HO, HB⟩ := hrel
        by_cases hlt : j < rows.length
        · have k2 : (j : Int) < (rows.length : Int) := by omega
          have HP1 := hid (HP.out.kept HB.out)
          have hc := HP1.out.cell j (rwV rows[j]) (by simp [hlt])
          have zp := HP1.out.lt
          have HT := hid (rwL_take hlt)
          have HL : Hid ((rwL (rows.take (j + 1))).length ≤ 4000000) := hid (Nat.le_trans (rwL_le rows (j + 1)) hn)
          have HQ := hid (rowA_old (famF d) (by decide) HO.out (HR.out _ (List.getElem_mem hlt)) HB.out)
          generalize rows[j] = r at *
          obtain ⟨ra, rc, rx⟩ := r
          unfold rwV at hc HQ
          dsimp only at hc HT HQ
          have hs : (rwL (rows.take j)).length + rx.length ≤ 4000000 := by have := HL.out; rw [HT.out, List.length_append] at this; exact this
          obtain ⟨la, lc, x1, HRUN, HO2, HG⟩ := OwnA.app (famF d) 33 26 56 (.agg #[.int .i64 0, .slice none 0 0, .slice none 0 0]) Tryz.underlying26 Tryz.infoF rfl (by decide) (by decide) HO.out HQ.out HB.out.size hs
          rw [HM.out] at HRUN HO2 HG
          have HB2 := hid (HB.out.trans (HO.out.bel HG.out (Nat.le_refl _) HB.out.size))
          have hl9 : (rx.length : Int) ≤ 9223372036854775807 := by omega
          clear hs HL HQ HG HB HP1
          go_wp2_with (first | (at_builtin; refine wpList_append_ran rfl _ _ 26 26 rfl rfl _ _ (.slice la (m + rx.length) lc) x1 rfl rfl HRUN.out ?_))
          exact ⟨⟨j + 1, m + rx.length, la, lc, rfl, by simp, by omega, hid (by rw [HT.out, List.length_append, HM.out]), hid (by rw [HT.out]; exact HO2.out), HB2⟩, by simp [numAt]; omega⟩
        · have k2 : ¬ (j : Int) < (rows.length : Int) := by omega
          have e1 : rows.take j = rows := List.take_of_length_le (by omega)
          rw [e1] at HO HM
          clear e1
          rw [← HM.out] at HO ⊢
          clear HM
          go_wp2
          go_ret
          exact ⟨oa, oc, rfl, HO.out, HB.out⟩
end Go.Proofs.YtkifjpaoncjokaaGreatDoor
namespace Go.Proofs.YtkifjpaoncjokaaGreatDoor
set_option linter.unusedVariables false
set_option linter.unusedSimpArgs false
/-- The union of two lists. -/
def uni {α : Type} (ord : α → α → Int) (both : α → α → α) : List α → List α → List α
  | [], b => b
  | x :: a, [] => x :: a
  | x :: a, y :: b => if ord x y < 0 then x :: uni ord both a (y :: b) else if 0 < ord x y then y :: uni ord both (x :: a) b else both x y :: uni ord both a b
termination_by a b => a.length + b.length
theorem uni_nil {α : Type} {ord : α → α → Int} {both : α → α → α} (b : List α) : uni ord both [] b = b := by rw [uni]
theorem uni_nilR {α : Type} {ord : α → α → Int} {both : α → α → α} (a : List α) : uni ord both a [] = a := by cases a <;> rw [uni]
theorem uni_lt {α : Type} {ord : α → α → Int} {both : α → α → α} {x y : α} {a b : List α} (h : ord x y < 0) : uni ord both (x :: a) (y :: b) = x :: uni ord both a (y :: b) := by rw [uni, if_pos h]
theorem uni_gt {α : Type} {ord : α → α → Int} {both : α → α → α} {x y : α} {a b : List α} (h : 0 < ord x y) : uni ord both (x :: a) (y :: b) = y :: uni ord both (x :: a) b := by rw [uni, if_neg (by omega), if_pos h]
theorem uni_eq {α : Type} {ord : α → α → Int} {both : α → α → α} {x y : α} {a b : List α} (h : ord x y = 0) : uni ord both (x :: a) (y :: b) = both x y :: uni ord both a b := by rw [uni, if_neg (by omega), if_neg (by omega)]
section
variable {α : Type} {In : α → Prop} {ord : α → α → Int} {both : α → α → α}
end
end Go.Proofs.YtkifjpaoncjokaaGreatDoor
