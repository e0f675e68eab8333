/-
  The document's Copy: an entry, a message of copied fields.
  The union of two lists of fields: what the program answers.
  Pairs of values: slices.Grow, slices.Concat.
  The union of two lists of pairs: what the program answers.
-/
import Derived.Test.YtkifjpaoncjokaaGreatDoorCNK
import Derived.Deep.RegionHeld3
import Derived.Test.YtkifjpaoncjokaaGreatDoorCAK
import Derived.Test.YtkifjpaoncjokaaGreatDoorCBN
namespace Go.Proofs.YtkifjpaoncjokaaGreatDoor
open Go.RowKit
set_option maxRecDepth 1000000
set_option linter.unusedVariables false
set_option linter.unusedSimpArgs false
set_option maxHeartbeats 2000000
/-- An append whose run is known, as one step of a region that draws its order. -/
theorem step_append_ran {P : Program} {ops : Array Oper} {o : Oper} {a : Act} {w : World} {K : Act → World → Prop} {Q : Exit → Act → World → Prop} {E : Prop}
    (hg : o.guard = none) (s x : Operand) (t ty : TypeId) (hop : o.op = Op.call { callee := Callee.builtin Builtin.append, args := #[s, x], argTypes := #[t, t] }) (hty : o.type = ty)
    (v xv v' : Value) (w' : World) (hs : a.eval s = v) (hx : a.eval x = xv) (hr : (Builtin.append_ #[t, t] ty #[v, xv]).run P w = .ok v' w') (hK : K (a.put o.dst v') w') :
    if Region.wanted o (yielded ops a.tmps) = true then Oper.wp P o a w K Q else E := by
  have hw : Region.wanted o (yielded ops a.tmps) = true := by simp [Region.wanted, hg]
  rw [if_pos hw]
  subst hty
  unfold Oper.wp
  simp [execOp, hop, resolve, invoke, builtin, hs, hx, hr, Result.andThen]
  exact hK
set_option maxHeartbeats 4000000
def lnV : Value → Nat
  | .slice _ n _ => n
  | _ => 0
theorem RowM.tail {α : Type} {w : World} {Z : Nat → Prop} {k : Nat} {E : List Value → α → Prop} {b o n c : Nat} {x : α} {xs : List α} (h : RowM w Z k E (.slice (some ⟨b, o, none⟩) n c) (x :: xs)) : RowM w Z k E (.slice (some ⟨b, o + k, none⟩) xs.length (c - 1)) xs := by
  obtain ⟨ts, ⟨a', c', e, hv⟩, hl, hn, he⟩ := h
  cases e
  cases ts with
  | nil => simp at hl
  | cons t ts =>
    have hlen := hv.length
    have hle := hv.le
    have hmx := hv.max
    simp at hl hlen hle hn
    refine ⟨ts, ⟨_, _, rfl, by have := t.2; simp at hlen ⊢; rw [Nat.succ_mul] at hlen; omega, by omega, by omega, ?_⟩, hl, by omega, fun i u y hu hy => he (i + 1) u y (by simpa using hu) (by simpa using hy)⟩
    rcases hv.cells with ⟨q, _⟩ | ⟨b2, o2, e3, hz, hc⟩
    · simp at q
    · cases e3
      refine .inr ⟨b, o + k, rfl, hz, fun j u hu => ?_⟩
      have := hc (k + j) u (by rw [List.flatMap_cons, List.getElem?_append_right (by rw [t.2]; omega), t.2]; simpa using hu)
      rw [Nat.add_assoc]
      exact this
theorem RowM.tl {α : Type} {w : World} {Z : Nat → Prop} {k : Nat} {E : List Value → α → Prop} {b o n c : Nat} {x : α} {xs : List α} (h : RowM w Z k E (.slice (some ⟨b, o, none⟩) n c) (x :: xs)) : RowM w Z k E (.slice (if c = 1 then some ⟨b, o, none⟩ else some ⟨b, o + k, none⟩) (n - 1) (c - 1)) xs := by
  have hc := h
  obtain ⟨ts, ⟨a', c', e, hv⟩, -⟩ := hc
  cases e
  have hle := hv.le
  simp at hle
  rw [show (x :: xs).length - 1 = xs.length by simp]
  by_cases q : c = 1
  · rw [if_pos q]
    obtain rfl : xs = [] := List.eq_nil_of_length_eq_zero (by omega)
    subst q
    exact ⟨[], ⟨_, _, rfl, by simp, by simp, by simp, .inl ⟨rfl, fun h => by cases h⟩⟩, rfl, by simp, fun i t x ht => by simp at ht⟩
  · rw [if_neg q]
    exact RowM.tail h
theorem zofA_new {α : Type} {w w2 : World} {Z : Nat → Prop} {base : Nat} {t : TypeId} {k : Nat} {E : World → (Nat → Prop) → List Value → α → Prop} (F : Fam k E) {v : Value} {xs : List α} (h : OwnA w base (fun b => Z b ∨ base ≤ b) t k E v xs) (hb : base ≤ w.heap.size) {cs : List Value} {x : α} (hx : E w2 (fun b => (Z b ∧ b < base) ∨ w.heap.size ≤ b) cs x) : E w2 (ZofA w2 (fun b => Z b ∨ base ≤ b) v) cs x := by
  refine F.go (F.old hx) (Keep.refl (fun _ => True) w2) (fun _ _ => trivial) (fun b hz => ⟨hz.1.elim (fun q => Or.inl q.1) (fun q => Or.inr (Nat.le_trans hb q)), hz.2, fun e => ?_⟩)
  have := h.own e
  rcases hz.1 with q | q
  · exact absurd q.2 (Nat.not_lt.2 this.1)
  · exact absurd this.2 (Nat.not_lt.2 q)
theorem tailRunF (b o n c : Nat) (h1 : 1 ≤ n) (W : World) : (Instr.sliceAt 26 (.slice (some ⟨b, o, none⟩) n c) (some (.int .i64 1)) none none).run Tryz.prog W = .ok (.slice (if c = 1 then some ⟨b, o, none⟩ else some ⟨b, o + 3, none⟩) (n - 1) (c - 1)) W := by
  have e : Tryz.prog.underlying 26 = some (.slice 33) := Tryz.underlying26
  have k1 : (1 : Int) ≤ (n : Int) := by omega
  simp [Instr.sliceAt, Instr.slice, Instr.sliceBounds, Instr.sliceBound, go_sem, e, k1]
theorem ordT (w : World) (Z : Nat → Prop) (d : Nat) (cs ds : List Value) (x y : CF CM) (h : FmF d w Z cs x) (g : FmF d w Z ds y) : Calls Tryz.prog 52 #[.agg cs.toArray, .agg ds.toArray] w fun e w' => e = .returned (.int .i64 (fOrd x y)) ∧ Below w.heap.size w w' := by
  obtain ⟨ka, kc, va, vc, rfl, -⟩ := fld_open h
  obtain ⟨kb, kd, vb, vd, rfl, -⟩ := fld_open g
  clear h g
  go_enter Tryz.func52, Tryz.ntmps52
  go_wp2_with (go_at_call 53; refine (Tryz.cmp_Compare_int _ _ _).mono ?_; rintro e w1 ⟨rfl, rfl⟩)
  go_ret
  refine ⟨?_, by exact blBy⟩
  show Ending.returned (.int .i64 (Lib.compareInt x.num y.num)) = _
  have : Lib.compareInt x.num y.num = fOrd x y := by
    unfold Lib.compareInt fOrd cmpI
    split
    · rfl
    · split <;> rfl
  rw [this]
theorem unionF (d : Nat) (w : World) (Z : Nat → Prop) (xs ys : List (CF CM)) (a b : Option Addr) (ac bc : Nat) (h1 : FlsR w Z d (.slice a xs.length ac) xs) (h2 : FlsR w Z d (.slice b ys.length bc) ys) (caps : Array Value) (bt : CF CM → CF CM → CF CM) (hn : xs.length + ys.length ≤ 4000000)
    (hf : ∀ (W : World), Below w.heap.size w W → ∀ (cs ds : List Value) (x y : CF CM), x ∈ xs → y ∈ ys → fOrd x y = 0 → FmF d W (fun b => Z b ∧ b < w.heap.size) cs x → FmF d W (fun b => Z b ∧ b < w.heap.size) ds y → Calls Tryz.prog 54 (#[.agg cs.toArray, .agg ds.toArray] ++ caps) W fun e w' => ∃ es : List Value, e = .returned (.agg es.toArray) ∧ FmF d w' (fun b => (Z b ∧ b < w.heap.size) ∨ W.heap.size ≤ b) es (bt x y) ∧ Below W.heap.size W w') :
    Calls Tryz.prog 56 #[.slice a xs.length ac, .slice b ys.length bc, .func (.func 52) #[] #[], .func (.func 54) #[] caps] w fun e w' => ∃ a' c', e = .returned (.slice a' (uni fOrd bt xs ys).length c') ∧ FlsR w' (fun b => Z b ∨ w.heap.size ≤ b) d (.slice a' (uni fOrd bt xs ys).length c') (uni fOrd bt xs ys) ∧ Below w.heap.size w w' := by
  have H1 := hid h1
  have H2 := hid h2
  have HF := hid hf
  have HLN : Hid (xs.length + ys.length ≤ 4000000) := hid hn
  clear h1 h2 hf
  go_enter Tryz.func56, Tryz.ntmps56
  go_wp2
  go_loopw [0, 1, 9] (fun s0 s1 s9 wr => ∃ (l r out : List (CF CM)) (n1 n2 n : Nat) (aa ab oa : Option Addr) (ca cb oc : Nat), s0 = .slice aa n1 ca ∧ s1 = .slice ab n2 cb ∧ s9 = .slice oa n oc ∧ Hid (l.length = n1 ∧ r.length = n2 ∧ out.length = n) ∧ n + n1 + n2 ≤ 4000000 ∧ Hid (FlsR w Z d (.slice aa n1 ca) l ∧ FlsR w Z d (.slice ab n2 cb) r) ∧ Hid ((∀ x ∈ l, x ∈ xs) ∧ (∀ y ∈ r, y ∈ ys) ∧ out ++ uni fOrd bt l r = uni fOrd bt xs ys) ∧ Hid (OwnA wr w.heap.size (fun b => Z b ∨ w.heap.size ≤ b) 33 3 (FmF d) (.slice oa n oc) out) ∧ Hid (Below w.heap.size w wr)) (fun s0 s1 s9 wr => lnV s0 + lnV s1)
  case atStart => exact ⟨xs, ys, [], xs.length, ys.length, 0, a, b, none, ac, bc, 0, rfl, rfl, rfl, hid ⟨rfl, rfl, rfl⟩, by omega, hid ⟨H1.out, H2.out⟩, hid ⟨fun _ h => h, fun _ h => h, rfl⟩, hid (OwnA.nil _ _ _ _ _ _), hid (Below.refl _ _)⟩
  case round =>
    clear H1 H2
    obtain ⟨l, r, out, n1, n2, n, aa, ab, oa, ca, cb, oc, rfl, rfl, rfl, HN, hn4, HR, HQ, HO, HB⟩ := hrel
    by_cases hz1 : n1 = 0
    · have k1 : ((0 : Int) < (n1 : Int)) = False := eq_false (by omega)
      have k1' : (0 < n1) = False := eq_false (by omega)
      have HU : Hid (out ++ (l ++ r) = uni fOrd bt xs ys) := hid (by obtain rfl : l = [] := List.eq_nil_of_length_eq_zero (by rw [HN.out.1]; exact hz1); rw [← HQ.out.2.2, uni_nil]; rfl)
      clear hz1
      go_wp2_with fail
      obtain ⟨rfl, rfl, rfl⟩ := HN.out
      have hrw : rwL [(oa, oc, out), (aa, ca, l), (ab, cb, r)] = uni fOrd bt xs ys := by rw [← HU.out]; simp [rwL]
      refine (concatField d _ (fun b => Z b ∨ w.heap.size ≤ b) [(oa, oc, out), (aa, ca, l), (ab, cb, r)] wr.heap.size (Blk.new _ _ _) ?_ (by rw [hrw, ← HU.out]; simp; omega) (by simp)).mono ?_
      · intro q hq
        simp only [List.mem_cons, List.not_mem_nil, or_false] at hq
        rcases hq with rfl | rfl | rfl
        · exact FlsR.go (HO.out.row (famF d) (by omega)) (keepT (below_alloc _)) (fun _ _ => trivial) (fun b hz => hz.elim id Or.inr)
        · exact FlsR.go HR.out.1 (keepT (by have := HB.out; exact blBy)) (fun _ _ => trivial) (fun b hz => Or.inl hz)
        · exact FlsR.go HR.out.2 (keepT (by have := HB.out; exact blBy)) (fun _ _ => trivial) (fun b hz => Or.inl hz)
      rintro e w2 ⟨a2, c2, rfl, ho, hbx⟩
      rw [hrw] at ho ⊢
      have HO2 := hid ho
      have HB2 : Hid (Below w.heap.size w w2) := hid (bl_then (by have := HB.out; exact blBy) hbx)
      have HL2 : Hid ((uni fOrd bt xs ys).length ≤ 4000000) := hid (by rw [← HU.out]; simp; omega)
      have hsz := HB.out.size
      clear ho hbx hrw HN HO HR HQ
      go_wp2
      go_ret
      exact ⟨a2, c2, rfl, FlsR.go (HO2.out.row (famF d) HL2.out) (Keep.refl (fun _ => True) w2) (fun _ _ => trivial) (fun b hz => hz.elim id (fun h => Or.inr (Nat.le_trans (Nat.le_trans hsz (Nat.le_succ _)) (by simpa using h)))), HB2.out⟩
    · have k1 : (0 : Int) < (n1 : Int) := by omega
      by_cases hz2 : n2 = 0
      · have k2 : ((0 : Int) < (n2 : Int)) = False := eq_false (by omega)
        have k2' : (0 < n2) = False := eq_false (by omega)
        have HU : Hid (out ++ (l ++ r) = uni fOrd bt xs ys) := hid (by obtain rfl : r = [] := List.eq_nil_of_length_eq_zero (by rw [HN.out.2.1]; exact hz2); rw [← HQ.out.2.2, uni_nilR, List.append_nil])
        clear hz2
        go_wp2_with fail
        obtain ⟨rfl, rfl, rfl⟩ := HN.out
        have hrw : rwL [(oa, oc, out), (aa, ca, l), (ab, cb, r)] = uni fOrd bt xs ys := by rw [← HU.out]; simp [rwL]
        refine (concatField d _ (fun b => Z b ∨ w.heap.size ≤ b) [(oa, oc, out), (aa, ca, l), (ab, cb, r)] wr.heap.size (Blk.new _ _ _) ?_ (by rw [hrw, ← HU.out]; simp; omega) (by simp)).mono ?_
        · intro q hq
          simp only [List.mem_cons, List.not_mem_nil, or_false] at hq
          rcases hq with rfl | rfl | rfl
          · exact FlsR.go (HO.out.row (famF d) (by omega)) (keepT (below_alloc _)) (fun _ _ => trivial) (fun b hz => hz.elim id Or.inr)
          · exact FlsR.go HR.out.1 (keepT (by have := HB.out; exact blBy)) (fun _ _ => trivial) (fun b hz => Or.inl hz)
          · exact FlsR.go HR.out.2 (keepT (by have := HB.out; exact blBy)) (fun _ _ => trivial) (fun b hz => Or.inl hz)
        rintro e w2 ⟨a2, c2, rfl, ho, hbx⟩
        rw [hrw] at ho ⊢
        have HO2 := hid ho
        have HB2 : Hid (Below w.heap.size w w2) := hid (bl_then (by have := HB.out; exact blBy) hbx)
        have HL2 : Hid ((uni fOrd bt xs ys).length ≤ 4000000) := hid (by rw [← HU.out]; simp; omega)
        have hsz := HB.out.size
        clear ho hbx hrw HN HO HR HQ
        go_wp2
        go_ret
        exact ⟨a2, c2, rfl, FlsR.go (HO2.out.row (famF d) HL2.out) (Keep.refl (fun _ => True) w2) (fun _ _ => trivial) (fun b hz => hz.elim id (fun h => Or.inr (Nat.le_trans (Nat.le_trans hsz (Nat.le_succ _)) (by simpa using h)))), HB2.out⟩
      · have k2 : (0 : Int) < (n2 : Int) := by omega
        obtain ⟨x, l, rfl⟩ : ∃ x l', l = x :: l' := List.exists_cons_of_length_pos (by rw [HN.out.1]; omega)
        obtain ⟨y, r, rfl⟩ : ∃ y r', r = y :: r' := List.exists_cons_of_length_pos (by rw [HN.out.2.1]; omega)
        obtain ⟨b1, o1, ka, kc, va, vc, rfl, -, hb1, c0, c1, c2, he⟩ := fls_at HR.out.1 (i := 0) (by simp)
        obtain ⟨b2, o2, kb, kd, vb, vd, rfl, -, hb2, d0, d1, d2, hf⟩ := fls_at HR.out.2 (i := 0) (by simp)
        simp only [Nat.zero_mul, Nat.add_zero, List.getElem_cons_zero] at c0 c1 c2 d0 d1 d2 he hf
        have HE := hid he
        have HG := hid hf
        have HEO := hid ((famF d).old he)
        have HGO := hid ((famF d).old hf)
        have HEY : Hid (FmF d w (fun b => Z b ∨ w.heap.size ≤ b) [.int .i64 x.num, .slice ka x.ks.length kc, .slice va x.vs.length vc] x) := hid (Fam.go (famF d) he (Keep.refl (fun _ => True) w) (fun _ _ => trivial) (fun _ h => Or.inl h))
        have HGY : Hid (FmF d w (fun b => Z b ∨ w.heap.size ≤ b) [.int .i64 y.num, .slice kb y.ks.length kd, .slice vb y.vs.length vd] y) := hid (Fam.go (famF d) hf (Keep.refl (fun _ => True) w) (fun _ _ => trivial) (fun _ h => Or.inl h))
        have C0 := hid c0
        have C1 := hid c1
        have C2 := hid c2
        have D0 := hid d0
        have D1 := hid d1
        have D2 := hid d2
        replace c0 := cell_below c0 HB.out
        replace c1 := cell_below c1 HB.out
        replace c2 := cell_below c2 HB.out
        replace d0 := cell_below d0 HB.out
        replace d1 := cell_below d1 HB.out
        replace d2 := cell_below d2 HB.out
        have k5 : (1 : Int) ≤ (n1 : Int) := by omega
        have k6 : (1 : Int) ≤ (n2 : Int) := by omega
        have k5' : 1 ≤ n1 := by omega
        have k6' : 1 ≤ n2 := by omega
        have m1 : (n1 : Int) ≤ 9223372036854775807 := by omega
        have m2 : (n2 : Int) ≤ 9223372036854775807 := by omega
        clear he hf
        go_wp2_with fail
        go_region_held3 (fun W => W.cell? ⟨b1, o1, none⟩ = some (.int .i64 x.num) ∧ W.cell? ⟨b1, o1 + 1, none⟩ = some (.slice ka x.ks.length kc) ∧ W.cell? ⟨b1, o1 + 2, none⟩ = some (.slice va x.vs.length vc) ∧ W.cell? ⟨b2, o2, none⟩ = some (.int .i64 y.num) ∧ W.cell? ⟨b2, o2 + 1, none⟩ = some (.slice kb y.ks.length kd) ∧ W.cell? ⟨b2, o2 + 2, none⟩ = some (.slice vb y.vs.length vd)) (exact ⟨c0, c1, c2, d0, d1, d2⟩) (first | (go_at_call 52; refine (ordT _ Z d _ _ x y (HE.out.kept (by have := HB.out; exact blBy)) (HG.out.kept (by have := HB.out; exact blBy))).mono ?_; rintro e w1 ⟨rfl, hbx⟩; replace c0 := cell_below c0 (below_trans (by first | exact Below.refl _ _ | exact below_drew1 _ | exact below_drewN _ _) hbx); replace c1 := cell_below c1 (below_trans (by first | exact Below.refl _ _ | exact below_drew1 _ | exact below_drewN _ _) hbx); replace c2 := cell_below c2 (below_trans (by first | exact Below.refl _ _ | exact below_drew1 _ | exact below_drewN _ _) hbx); replace d0 := cell_below d0 (below_trans (by first | exact Below.refl _ _ | exact below_drew1 _ | exact below_drewN _ _) hbx); replace d1 := cell_below d1 (below_trans (by first | exact Below.refl _ _ | exact below_drew1 _ | exact below_drewN _ _) hbx); replace d2 := cell_below d2 (below_trans (by first | exact Below.refl _ _ | exact below_drew1 _ | exact below_drewN _ _) hbx); replace HO := hid (HO.out.kept (famF d) (below_trans (by first | exact Below.refl _ _ | exact below_drew1 _ | exact below_drewN _ _) hbx)); replace HB := hid (bl_then HB.out (below_trans (by first | exact Below.refl _ _ | exact below_drew1 _ | exact below_drewN _ _) hbx)); clear hbx))
        rcases Int.lt_trichotomy (fOrd x y) 0 with hq | hq | hq
        · have k3 : (fOrd x y < 0) = True := eq_true hq
          have HOd := hid (HO.out.kept (famF d) (below_drew1 w1))
          have HZ : Hid (FmF d w1.drew (ZofA w1.drew (fun b => Z b ∨ w.heap.size ≤ b) (.slice oa n oc)) [.int .i64 x.num, .slice ka x.ks.length kc, .slice va x.vs.length vc] x) := hid (zofA_old (famF d) HOd.out HEY.out (bl_then HB.out (below_drew1 _)))
          obtain ⟨la, lc, x1, HRUN, HO2, HGr⟩ := OwnA.push (famF d) 33 26 56 (.agg #[.int .i64 0, .slice none 0 0, .slice none 0 0]) Tryz.underlying26 Tryz.infoF rfl (by decide) (by decide) HOd.out HZ.out HB.out.size (by rw [HN.out.2.2]; omega)
          rw [HN.out.2.2] at HRUN HO2 HGr
          have HBd := hid (bl_then HB.out (below_drew1 _))
          have HB2 := hid (HBd.out.trans (HOd.out.bel HGr.out (Nat.le_refl _) HBd.out.size))
          go_wp2_with fail
          go_region_held3 (fun W => W.cell? ⟨b1, o1, none⟩ = some (.int .i64 x.num) ∧ W.cell? ⟨b1, o1 + 1, none⟩ = some (.slice ka x.ks.length kc) ∧ W.cell? ⟨b1, o1 + 2, none⟩ = some (.slice va x.vs.length vc)) (first | exact ⟨c0, c1, c2⟩ | exact ⟨cell_below C0.out HB2.out, cell_below C1.out HB2.out, cell_below C2.out HB2.out⟩ | exact ⟨cell_below c0 (by exact blBy), cell_below c1 (by exact blBy), cell_below c2 (by exact blBy)⟩) (first | (refine step_append_ran rfl _ _ 26 26 rfl rfl _ _ (.slice la (n + 1) lc) x1 rfl rfl HRUN.out ?_))
          go_wp2
          exact ⟨⟨l, y :: r, out ++ [x], n1 - 1, n2, n + 1, _, _, la, ca - 1, cb, lc, rfl, rfl, rfl, hid ⟨by have := HN.out.1; simp at this; omega, HN.out.2.1, by rw [List.length_append, HN.out.2.2]; rfl⟩, by omega, hid ⟨RowM.tl HR.out.1, HR.out.2⟩, hid ⟨fun z hz => HQ.out.1 z (List.mem_cons_of_mem _ hz), HQ.out.2.1, by rw [← HQ.out.2.2, uni_lt hq]; simp⟩, HO2, HB2⟩, by simp [lnV]; omega⟩
        · have k3 : (fOrd x y < 0) = False := eq_false (by omega)
          have k4 : (0 < fOrd x y) = False := eq_false (by omega)
          obtain ⟨ta, T1, HR1⟩ : ∃ ta, (∀ W, (Instr.sliceAt 26 (.slice (some ⟨b1, o1, none⟩) n1 ca) (some (.int .i64 1)) none none).run Tryz.prog W = .ok (.slice ta (n1 - 1) (ca - 1)) W) ∧ Hid (FlsR w Z d (.slice ta (n1 - 1) (ca - 1)) l) := ⟨_, tailRunF b1 o1 n1 ca k5', hid (RowM.tl HR.out.1)⟩
          obtain ⟨tb, T2, HR2⟩ : ∃ tb, (∀ W, (Instr.sliceAt 26 (.slice (some ⟨b2, o2, none⟩) n2 cb) (some (.int .i64 1)) none none).run Tryz.prog W = .ok (.slice tb (n2 - 1) (cb - 1)) W) ∧ Hid (FlsR w Z d (.slice tb (n2 - 1) (cb - 1)) r) := ⟨_, tailRunF b2 o2 n2 cb k6', hid (RowM.tl HR.out.2)⟩
          go_wp2_with fail
          go_region_held3 (fun W => W.cell? ⟨b1, o1, none⟩ = some (.int .i64 x.num) ∧ W.cell? ⟨b1, o1 + 1, none⟩ = some (.slice ka x.ks.length kc) ∧ W.cell? ⟨b1, o1 + 2, none⟩ = some (.slice va x.vs.length vc) ∧ W.cell? ⟨b2, o2, none⟩ = some (.int .i64 y.num) ∧ W.cell? ⟨b2, o2 + 1, none⟩ = some (.slice kb y.ks.length kd) ∧ W.cell? ⟨b2, o2 + 2, none⟩ = some (.slice vb y.vs.length vd)) (first | exact ⟨c0, c1, c2, d0, d1, d2⟩ | exact ⟨cell_below C0.out HB2.out, cell_below C1.out HB2.out, cell_below C2.out HB2.out, cell_below D0.out HB2.out, cell_below D1.out HB2.out, cell_below D2.out HB2.out⟩ | exact ⟨cell_below c0 (by exact blBy), cell_below c1 (by exact blBy), cell_below c2 (by exact blBy), cell_below d0 (by exact blBy), cell_below d1 (by exact blBy), cell_below d2 (by exact blBy)⟩) (first | (refine step_append_ran rfl _ _ 26 26 rfl rfl _ _ (.slice la (n + 1) lc) x1 rfl rfl HRUN.out ?_) | (go_at_call 54; refine (HF.out _ (by have := HB.out; exact blBy) _ _ x y (HQ.out.1 x (List.mem_cons_self ..)) (HQ.out.2.1 y (List.mem_cons_self ..)) hq (HEO.out.kept (by have := HB.out; exact blBy)) (HGO.out.kept (by have := HB.out; exact blBy))).mono ?_; rintro e w2 ⟨es, rfl, hes, hbx⟩; have HZ := hid (zofA_new (famF d) (HO.out.kept (famF d) (by first | exact Below.refl _ _ | exact below_drew1 _ | exact below_drewN _ _)) HB.out.size hes); replace c0 := cell_below c0 (below_trans (by first | exact Below.refl _ _ | exact below_drew1 _ | exact below_drewN _ _) hbx); replace c1 := cell_below c1 (below_trans (by first | exact Below.refl _ _ | exact below_drew1 _ | exact below_drewN _ _) hbx); replace c2 := cell_below c2 (below_trans (by first | exact Below.refl _ _ | exact below_drew1 _ | exact below_drewN _ _) hbx); replace d0 := cell_below d0 (below_trans (by first | exact Below.refl _ _ | exact below_drew1 _ | exact below_drewN _ _) hbx); replace d1 := cell_below d1 (below_trans (by first | exact Below.refl _ _ | exact below_drew1 _ | exact below_drewN _ _) hbx); replace d2 := cell_below d2 (below_trans (by first | exact Below.refl _ _ | exact below_drew1 _ | exact below_drewN _ _) hbx); replace HO := hid (HO.out.kept (famF d) (below_trans (by first | exact Below.refl _ _ | exact below_drew1 _ | exact below_drewN _ _) hbx)); replace HB := hid (bl_then HB.out (below_trans (by first | exact Below.refl _ _ | exact below_drew1 _ | exact below_drewN _ _) hbx)); clear hes hbx; obtain ⟨ka2, kc2, va2, vc2, rfl, -⟩ := fld_open HZ.out; obtain ⟨la, lc, x1, HRUN, HO2, HGr⟩ := OwnA.push (famF d) 33 26 56 (.agg #[.int .i64 0, .slice none 0 0, .slice none 0 0]) Tryz.underlying26 Tryz.infoF rfl (by decide) (by decide) HO.out HZ.out HB.out.size (by rw [HN.out.2.2]; omega); rw [HN.out.2.2] at HRUN HO2 HGr; have HB2 := hid (HB.out.trans (HO.out.bel HGr.out (Nat.le_refl _) HB.out.size))))
          go_wp2
          exact ⟨⟨l, r, out ++ [bt x y], n1 - 1, n2 - 1, n + 1, _, _, la, ca - 1, cb - 1, lc, rfl, rfl, rfl, hid ⟨by have := HN.out.1; simp at this; omega, by have := HN.out.2.1; simp at this; omega, by rw [List.length_append, HN.out.2.2]; rfl⟩, by omega, hid ⟨HR1.out, HR2.out⟩, hid ⟨fun z hz => HQ.out.1 z (List.mem_cons_of_mem _ hz), fun z hz => HQ.out.2.1 z (List.mem_cons_of_mem _ hz), by rw [← HQ.out.2.2, uni_eq hq]; simp⟩, HO2, HB2⟩, by simp [lnV]; omega⟩
        · have k3 : (fOrd x y < 0) = False := eq_false (by omega)
          have k4 : (0 < fOrd x y) = True := eq_true hq
          have HOd := hid (HO.out.kept (famF d) (below_drew1 w1))
          have HZ : Hid (FmF d w1.drew (ZofA w1.drew (fun b => Z b ∨ w.heap.size ≤ b) (.slice oa n oc)) [.int .i64 y.num, .slice kb y.ks.length kd, .slice vb y.vs.length vd] y) := hid (zofA_old (famF d) HOd.out HGY.out (bl_then HB.out (below_drew1 _)))
          obtain ⟨la, lc, x1, HRUN, HO2, HGr⟩ := OwnA.push (famF d) 33 26 56 (.agg #[.int .i64 0, .slice none 0 0, .slice none 0 0]) Tryz.underlying26 Tryz.infoF rfl (by decide) (by decide) HOd.out HZ.out HB.out.size (by rw [HN.out.2.2]; omega)
          rw [HN.out.2.2] at HRUN HO2 HGr
          have HBd := hid (bl_then HB.out (below_drew1 _))
          have HB2 := hid (HBd.out.trans (HOd.out.bel HGr.out (Nat.le_refl _) HBd.out.size))
          go_wp2_with fail
          go_region_held3 (fun W => W.cell? ⟨b2, o2, none⟩ = some (.int .i64 y.num) ∧ W.cell? ⟨b2, o2 + 1, none⟩ = some (.slice kb y.ks.length kd) ∧ W.cell? ⟨b2, o2 + 2, none⟩ = some (.slice vb y.vs.length vd)) (first | exact ⟨d0, d1, d2⟩ | exact ⟨cell_below D0.out HB2.out, cell_below D1.out HB2.out, cell_below D2.out HB2.out⟩ | exact ⟨cell_below d0 (by exact blBy), cell_below d1 (by exact blBy), cell_below d2 (by exact blBy)⟩) (first | (refine step_append_ran rfl _ _ 26 26 rfl rfl _ _ (.slice la (n + 1) lc) x1 rfl rfl HRUN.out ?_))
          go_wp2
          exact ⟨⟨x :: l, r, out ++ [y], n1, n2 - 1, n + 1, _, _, la, ca, cb - 1, lc, rfl, rfl, rfl, hid ⟨HN.out.1, by have := HN.out.2.1; simp at this; omega, by rw [List.length_append, HN.out.2.2]; rfl⟩, by omega, hid ⟨HR.out.1, RowM.tl HR.out.2⟩, hid ⟨HQ.out.1, fun z hz => HQ.out.2.1 z (List.mem_cons_of_mem _ hz), by rw [← HQ.out.2.2, uni_gt hq]; simp⟩, HO2, HB2⟩, by simp [lnV]; omega⟩
set_option maxHeartbeats 1000000
theorem Tryz.infoP : (Tryz.prog.info? 166).map (fun i => (i.zero, i.size, i.bytes)) = some (some (.agg #[.int .u64 0, .slice none 0 0, .slice none 0 0, .int .u64 0, .slice none 0 0, .slice none 0 0]), 6, 112) := by kernel_rfl
/-- A pair of values. -/
def FmP (d : Nat) (w : World) (Z : Nat → Prop) (cs : List Value) (p : CV CM × CV CM) : Prop := ∃ c1 c2, cs = c1 ++ c2 ∧ FmV d w Z c1 p.1 ∧ FmV d w Z c2 p.2
theorem famP (d : Nat) : Fam 6 (FmP d) where
  go h g hf hz := by
    obtain ⟨c1, c2, e, h1, h2⟩ := h
    exact ⟨c1, c2, e, (famV d).go h1 g hf hz, (famV d).go h2 g hf hz⟩
  old h := by
    obtain ⟨c1, c2, e, h1, h2⟩ := h
    exact ⟨c1, c2, e, (famV d).old h1, (famV d).old h2⟩
  one h u hu := by
    obtain ⟨c1, c2, rfl, h1, h2⟩ := h
    rcases List.mem_append.1 hu with q | q
    · exact (famV d).one h1 u q
    · exact (famV d).one h2 u q
  len h := by
    obtain ⟨c1, c2, rfl, h1, h2⟩ := h
    rw [List.length_append, (famV d).len h1, (famV d).len h2]
theorem FmP.kept {d : Nat} {w w' : World} {Z : Nat → Prop} {cs : List Value} {p : CV CM × CV CM} (h : FmP d w Z cs p) (hb : Below w.heap.size w w') : FmP d w' Z cs p := (famP d).go h (keepT hb) (fun _ _ => trivial) (fun _ h => h)
abbrev PrsR (w : World) (Z : Nat → Prop) (d : Nat) (v : Value) (xs : List (CV CM × CV CM)) : Prop := RowM w Z 6 (FmP d w Z) v xs
theorem PrsR.go {w w' : World} {Z Z' f : Nat → Prop} {d : Nat} {v : Value} {xs : List (CV CM × CV CM)} (h : PrsR w Z d v xs) (g : Keep f w w') (hf : ∀ b, Z b → f b) (hz : ∀ b, Z b → Z' b) : PrsR w' Z' d v xs := ((RowM.keep h g hf).weak hz).imp (fun cs x _ hx => (famP d).go hx g hf hz)
theorem prs_open {d : Nat} {w : World} {Z : Nat → Prop} {cs : List Value} {p : CV CM × CV CM} (h : FmP d w Z cs p) : ∃ ba bc ma mc da dc na nc, cs = [.int .u64 p.1.n, .slice ba p.1.b.length bc, .slice ma p.1.ms.length mc, .int .u64 p.2.n, .slice da p.2.b.length dc, .slice na p.2.ms.length nc] ∧ FmV d w Z [.int .u64 p.1.n, .slice ba p.1.b.length bc, .slice ma p.1.ms.length mc] p.1 ∧ FmV d w Z [.int .u64 p.2.n, .slice da p.2.b.length dc, .slice na p.2.ms.length nc] p.2 := by
  obtain ⟨c1, c2, rfl, h1, h2⟩ := h
  obtain ⟨ba, bc, ma, mc, rfl, -⟩ := val_open h1
  obtain ⟨da, dc, na, nc, rfl, -⟩ := val_open h2
  exact ⟨ba, bc, ma, mc, da, dc, na, nc, rfl, h1, h2⟩
theorem prs_at {w : World} {Z : Nat → Prop} {d : Nat} {a : Option Addr} {n c : Nat} {xs : List (CV CM × CV CM)} (h : PrsR w Z d (.slice a n c) xs) {i : Nat} (hi : i < xs.length) : ∃ b o ba bc ma mc da dc na nc, a = some ⟨b, o, none⟩ ∧ Z b ∧ b < w.heap.size ∧ w.cell? ⟨b, o + i * 6, none⟩ = some (.int .u64 xs[i].1.n) ∧ w.cell? ⟨b, o + i * 6 + 1, none⟩ = some (.slice ba xs[i].1.b.length bc) ∧ w.cell? ⟨b, o + i * 6 + 2, none⟩ = some (.slice ma xs[i].1.ms.length mc) ∧ w.cell? ⟨b, o + i * 6 + 3, none⟩ = some (.int .u64 xs[i].2.n) ∧ w.cell? ⟨b, o + i * 6 + 4, none⟩ = some (.slice da xs[i].2.b.length dc) ∧ w.cell? ⟨b, o + i * 6 + 5, none⟩ = some (.slice na xs[i].2.ms.length nc) ∧ FmP d w Z [.int .u64 xs[i].1.n, .slice ba xs[i].1.b.length bc, .slice ma xs[i].1.ms.length mc, .int .u64 xs[i].2.n, .slice da xs[i].2.b.length dc, .slice na xs[i].2.ms.length nc] xs[i] := by
  obtain ⟨b, o, cs, e, hz, hb, hl, he, hc⟩ := RowM.at h (by decide) hi
  obtain ⟨ba, bc, ma, mc, da, dc, na, nc, rfl, -⟩ := prs_open he
  exact ⟨b, o, ba, bc, ma, mc, da, dc, na, nc, e, hz, hb, hc 0 _ rfl, hc 1 _ rfl, hc 2 _ rfl, hc 3 _ rfl, hc 4 _ rfl, hc 5 _ rfl, he⟩
theorem growpair (w : World) (n : Nat) (hn : n ≤ 4000000) : Calls Tryz.prog 175 #[.slice none 0 0, .int .i64 (n : Int)] w fun e w' => ∃ a c, e = .returned (.slice a 0 c) ∧ w'.ownsRow w.heap.size 166 6 (.slice a 0 c) 0 [] ∧ Below w.heap.size w w' := by
  by_cases h0 : n = 0
  · subst h0
    go_enter Tryz.func175, Tryz.ntmps175
    go_wp2
    go_ret
    exact ⟨none, 0, rfl, World.ownsRow_nil _ _ _ _, by exact blBy⟩
  · obtain ⟨i0, hi0, hz0, hzs, hzb⟩ := info_parts Tryz.infoP
    have HA := fun ty => Lib.run_append_grow_zeros (P := Tryz.prog) w 170 3 ty 166 i0 _ .i64 .i64 Tryz.underlying170 Tryz.underlying3 hi0 hz0 none 0 0 [] (by rw [hzs]; exact run_firstCells_none w.drew 6 0 0 0) n (by omega) (by omega) (by omega) (by omega) (by rw [hzb]; omega) (by rw [hzb]; exact growslice_fits (by omega) (by omega))
    simp only [Nat.zero_add] at HA
    obtain ⟨G, hG⟩ : ∃ G, G = grownCap w n 0 166 := ⟨_, rfl⟩
    have hGn : n ≤ G := by rw [hG]; exact grownCap_ge w _ _ _
    have hGm : G ≤ maxLen := by rw [hG]; exact grownCap_le_maxLen w _ _ _ (by unfold maxLen; omega)
    simp only [← hG] at HA
    clear hG
    obtain ⟨ROW, hROW⟩ : ∃ ROW : Array Value, ROW = ([] : List Value).toArray ++ Builtin.zeroCells (Value.cells (.agg #[.int .u64 0, .slice none 0 0, .slice none 0 0, .int .u64 0, .slice none 0 0, .slice none 0 0])) n ++ Builtin.zeroCells (Value.cells (.agg #[.int .u64 0, .slice none 0 0, .slice none 0 0, .int .u64 0, .slice none 0 0, .slice none 0 0])) (G - n) := ⟨_, rfl⟩
    have hRS : ROW.size = G * 6 := by
      rw [hROW]
      simp only [Array.size_append, List.size_toArray, Builtin.zeroCells, Array.size_map, Array.size_range]
      simp only [Value.cells]
      show 0 + n * 6 + (G - n) * 6 = G * 6
      omega
    simp only [← hROW] at HA
    clear hROW
    have HAA := hid HA
    have HFIN : Hid (∀ W : World, W.heap = (w.drew.alloc (.cells ROW 166)).heap → W.ownsRow w.heap.size 166 6 (.slice (some ⟨w.heap.size, 0, none⟩) 0 G) 0 []) := hid fun W hW => ⟨rfl, .inr ⟨w.heap.size, G, ROW, rfl, Nat.le_refl _, by rw [hW]; show (w.heap.push _)[w.heap.size]? = _; simp, Nat.zero_le _, hGm, hRS, by simp⟩⟩
    have k1 : (0 : Int) < (n : Int) := by omega
    have k2 : ((n : Int) < 0) = False := eq_false (by omega)
    have k3 : (n : Int) ≤ 9223372036854775807 := by omega
    have k5 : (G : Int) ≤ 9223372036854775807 := by unfold maxLen at hGm; omega
    have k6 : (0 : Int) ≤ (G : Int) := by omega
    clear HA hRS hGm hi0 hz0 hzs hzb
    go_enter Tryz.func175, Tryz.ntmps175
    go_wp2_with (first | (at_builtin; refine wpList_appendz_ran rfl _ _ _ _ rfl _ _ rfl rfl (HAA.out _) ?_))
    go_wp2
    go_ret
    exact ⟨_, G, rfl, HFIN.out _ rfl, by exact blBy⟩
theorem concatpair (d : Nat) (w : World) (Z : Nat → Prop) (rows : List (Option Addr × Nat × List (CV CM × CV CM))) (p : Nat) (hp : Blk w p 170 (rows.map rwV).toArray) (hr : ∀ r ∈ rows, RowM w Z 6 ((FmP d) w Z) (rwV r) r.2.2) (hn : (rwL rows).length ≤ 4000000) (hm : rows.length ≤ 1000) : Calls Tryz.prog 147 #[.slice (some ⟨p, 0, none⟩) rows.length rows.length] w fun e w' => ∃ a c, e = .returned (.slice a (rwL rows).length c) ∧ OwnA w' w.heap.size Z 166 6 (FmP d) (.slice a (rwL rows).length c) (rwL rows) ∧ Below w.heap.size w w' := by
  have HP := hid hp
  have HR := hid hr
  have m1 : (rows.length : Int) ≤ 9223372036854775807 := by omega
  clear hp hr
  go_enter Tryz.func147, Tryz.ntmps147
  go_wp2
  go_loopw [3, 11] (fun s3 s11 wr => ∃ (j n : Nat), s3 = .int .i64 (n : Int) ∧ s11 = .int .i64 (j : Int) ∧ j ≤ rows.length ∧ Hid ((rwL (rows.take j)).length = n) ∧ n ≤ 4000000 ∧ wr = w) (fun s3 s11 wr => rows.length - numAt wr s11)
  case atStart => exact ⟨0, 0, rfl, rfl, by omega, hid rfl, by omega, rfl⟩
  case round =>
    obtain ⟨j, n, rfl, rfl, hj, HN, hn4, rfl⟩ := hrel
    by_cases hlt : j < rows.length
    · have k2 : (j : Int) < (rows.length : Int) := by omega
      have hc : wr.cell? ⟨p, j, none⟩ = some (rwV rows[j]) := HP.out.cell j _ (by simp [hlt])
      have zp := HP.out.lt
      have HT := hid (rwL_take hlt)
      have HL : Hid ((rwL (rows.take (j + 1))).length ≤ 4000000) := hid (Nat.le_trans (rwL_le rows (j + 1)) hn)
      generalize rows[j] = r at *
      obtain ⟨ra, rc, rx⟩ := r
      unfold rwV at hc
      dsimp only at hc HT
      have hs : n + rx.length ≤ 4000000 := by have := HL.out; rw [HT.out, List.length_append, HN.out] at this; exact this
      have hw : IntKind.i64.wrap ((n : Int) + (rx.length : Int)) = (n : Int) + (rx.length : Int) := by rw [IntKind.wrap_i64]; omega
      have hz : ((n : Int) + (rx.length : Int) < 0) = False := eq_false (by omega)
      have hl9 : (rx.length : Int) ≤ 9223372036854775807 := by omega
      go_wp2
      exact ⟨⟨j + 1, n + rx.length, by simp, by simp, by omega, hid (by rw [HT.out, List.length_append, HN.out]), hs, trivial⟩, by simp [numAt]; omega⟩
    · have k2 : ¬ (j : Int) < (rows.length : Int) := by omega
      have e1 : rows.take j = rows := List.take_of_length_le (by omega)
      rw [e1] at HN
      clear e1
      go_wp2_with fail
      refine (growpair _ n hn4).mono ?_
      rintro e w1 ⟨ga, gc, rfl, ho, hb⟩
      have HO : Hid (OwnA w1 wr.heap.size Z 166 6 (FmP d) (.slice ga 0 gc) []) := hid ⟨[], ho, rfl, fun i t x ht => by simp at ht⟩
      have HB := hid hb
      clear ho hb hlt hj
      go_wp2
      clear k2 HN
      go_loopw [6, 27] (fun s6 s27 wx => ∃ (j m : Nat) (a : Option Addr) (c : Nat), s6 = .slice a m c ∧ s27 = .int .i64 (j : Int) ∧ j ≤ rows.length ∧ Hid ((rwL (rows.take j)).length = m) ∧ Hid (OwnA wx wr.heap.size Z 166 6 (FmP d) (.slice a m c) (rwL (rows.take j))) ∧ Hid (Below wr.heap.size wr wx)) (fun s6 s27 wx => rows.length - numAt wx s27)
      case atStart => exact ⟨0, 0, ga, gc, rfl, rfl, by omega, hid rfl, HO, HB⟩
      case round =>
        clear HO HB
        obtain ⟨j, m, oa, oc, rfl, rfl, hj, HM, HO, HB⟩ := hrel
        by_cases hlt : j < rows.length
        · have k2 : (j : Int) < (rows.length : Int) := by omega
          have HP1 := hid (HP.out.kept HB.out)
          have hc := HP1.out.cell j (rwV rows[j]) (by simp [hlt])
          have zp := HP1.out.lt
          have HT := hid (rwL_take hlt)
          have HL : Hid ((rwL (rows.take (j + 1))).length ≤ 4000000) := hid (Nat.le_trans (rwL_le rows (j + 1)) hn)
          have HQ := hid (rowA_old (famP d) (by decide) HO.out (HR.out _ (List.getElem_mem hlt)) HB.out)
          generalize rows[j] = r at *
          obtain ⟨ra, rc, rx⟩ := r
          unfold rwV at hc HQ
          dsimp only at hc HT HQ
          have hs : (rwL (rows.take j)).length + rx.length ≤ 4000000 := by have := HL.out; rw [HT.out, List.length_append] at this; exact this
          obtain ⟨la, lc, x1, HRUN, HO2, HG⟩ := OwnA.app (famP d) 166 170 112 (.agg #[.int .u64 0, .slice none 0 0, .slice none 0 0, .int .u64 0, .slice none 0 0, .slice none 0 0]) Tryz.underlying170 Tryz.infoP rfl (by decide) (by decide) HO.out HQ.out HB.out.size hs
          rw [HM.out] at HRUN HO2 HG
          have HB2 := hid (HB.out.trans (HO.out.bel HG.out (Nat.le_refl _) HB.out.size))
          have hl9 : (rx.length : Int) ≤ 9223372036854775807 := by omega
          clear hs HL HQ HG HB HP1
          go_wp2_with (first | (at_builtin; refine wpList_append_ran rfl _ _ 170 170 rfl rfl _ _ (.slice la (m + rx.length) lc) x1 rfl rfl HRUN.out ?_))
          exact ⟨⟨j + 1, m + rx.length, la, lc, rfl, by simp, by omega, hid (by rw [HT.out, List.length_append, HM.out]), hid (by rw [HT.out]; exact HO2.out), HB2⟩, by simp [numAt]; omega⟩
        · have k2 : ¬ (j : Int) < (rows.length : Int) := by omega
          have e1 : rows.take j = rows := List.take_of_length_le (by omega)
          rw [e1] at HO HM
          clear e1
          rw [← HM.out] at HO ⊢
          clear HM
          go_wp2
          go_ret
          exact ⟨oa, oc, rfl, HO.out, HB.out⟩
set_option maxHeartbeats 8000000
theorem tailRunP (b o n c : Nat) (h1 : 1 ≤ n) (W : World) : (Instr.sliceAt 170 (.slice (some ⟨b, o, none⟩) n c) (some (.int .i64 1)) none none).run Tryz.prog W = .ok (.slice (if c = 1 then some ⟨b, o, none⟩ else some ⟨b, o + 6, none⟩) (n - 1) (c - 1)) W := by
  have e : Tryz.prog.underlying 170 = some (.slice 166) := Tryz.underlying170
  have k1 : (1 : Int) ≤ (n : Int) := by omega
  simp [Instr.sliceAt, Instr.slice, Instr.sliceBounds, Instr.sliceBound, go_sem, e, k1]
theorem unionP (d : Nat) (w : World) (Z : Nat → Prop) (xs ys : List (CV CM × CV CM)) (a b : Option Addr) (ac bc : Nat) (h1 : PrsR w Z d (.slice a xs.length ac) xs) (h2 : PrsR w Z d (.slice b ys.length bc) ys) (cap1 : Array Value) (ord : CV CM × CV CM → CV CM × CV CM → Int) (bt : CV CM × CV CM → CV CM × CV CM → CV CM × CV CM) (hn : xs.length + ys.length ≤ 4000000)
    (ho : ∀ (W : World), Below w.heap.size w W → ∀ (cs ds : List Value) (x y : CV CM × CV CM), x ∈ xs → y ∈ ys → FmP d W Z cs x → FmP d W Z ds y → Calls Tryz.prog 104 (#[.agg cs.toArray, .agg ds.toArray] ++ cap1) W fun e w' => e = .returned (.int .i64 (ord x y)) ∧ Below W.heap.size W w')
    (hf : ∀ (W : World), Below w.heap.size w W → ∀ (cs ds : List Value) (x y : CV CM × CV CM), x ∈ xs → y ∈ ys → ord x y = 0 → FmP d W (fun b => Z b ∧ b < w.heap.size) cs x → FmP d W (fun b => Z b ∧ b < w.heap.size) ds y → Calls Tryz.prog 108 #[.agg cs.toArray, .agg ds.toArray] W fun e w' => ∃ es : List Value, e = .returned (.agg es.toArray) ∧ FmP d w' (fun b => (Z b ∧ b < w.heap.size) ∨ W.heap.size ≤ b) es (bt x y) ∧ Below W.heap.size W w') :
    Calls Tryz.prog 106 #[.slice a xs.length ac, .slice b ys.length bc, .func (.func 104) #[] cap1, .func (.func 108) #[] #[]] w fun e w' => ∃ a' c', e = .returned (.slice a' (uni ord bt xs ys).length c') ∧ PrsR w' (fun b => Z b ∨ w.heap.size ≤ b) d (.slice a' (uni ord bt xs ys).length c') (uni ord bt xs ys) ∧ Below w.heap.size w w' := by
  have H1 := hid h1
  have H2 := hid h2
  have HF := hid hf
  have HOR := hid ho
  have HLN : Hid (xs.length + ys.length ≤ 4000000) := hid hn
  clear h1 h2 hf ho
  go_enter Tryz.func106, Tryz.ntmps106
  go_wp2
  go_loopw [0, 1, 9] (fun s0 s1 s9 wr => ∃ (l r out : List (CV CM × CV CM)) (n1 n2 n : Nat) (aa ab oa : Option Addr) (ca cb oc : Nat), s0 = .slice aa n1 ca ∧ s1 = .slice ab n2 cb ∧ s9 = .slice oa n oc ∧ Hid (l.length = n1 ∧ r.length = n2 ∧ out.length = n) ∧ n + n1 + n2 ≤ 4000000 ∧ Hid (PrsR w Z d (.slice aa n1 ca) l ∧ PrsR w Z d (.slice ab n2 cb) r) ∧ Hid ((∀ x ∈ l, x ∈ xs) ∧ (∀ y ∈ r, y ∈ ys) ∧ out ++ uni ord bt l r = uni ord bt xs ys) ∧ Hid (OwnA wr w.heap.size (fun b => Z b ∨ w.heap.size ≤ b) 166 6 (FmP d) (.slice oa n oc) out) ∧ Hid (Below w.heap.size w wr)) (fun s0 s1 s9 wr => lnV s0 + lnV s1)
  case atStart => exact ⟨xs, ys, [], xs.length, ys.length, 0, a, b, none, ac, bc, 0, rfl, rfl, rfl, hid ⟨rfl, rfl, rfl⟩, by omega, hid ⟨H1.out, H2.out⟩, hid ⟨fun _ h => h, fun _ h => h, rfl⟩, hid (OwnA.nil _ _ _ _ _ _), hid (Below.refl _ _)⟩
  case round =>
    clear H1 H2
    obtain ⟨l, r, out, n1, n2, n, aa, ab, oa, ca, cb, oc, rfl, rfl, rfl, HN, hn4, HR, HQ, HO, HB⟩ := hrel
    by_cases hz1 : n1 = 0
    · have k1 : ((0 : Int) < (n1 : Int)) = False := eq_false (by omega)
      have k1' : (0 < n1) = False := eq_false (by omega)
      have HU : Hid (out ++ (l ++ r) = uni ord bt xs ys) := hid (by obtain rfl : l = [] := List.eq_nil_of_length_eq_zero (by rw [HN.out.1]; exact hz1); rw [← HQ.out.2.2, uni_nil]; rfl)
      clear hz1
      go_wp2_with fail
      obtain ⟨rfl, rfl, rfl⟩ := HN.out
      have hrw : rwL [(oa, oc, out), (aa, ca, l), (ab, cb, r)] = uni ord bt xs ys := by rw [← HU.out]; simp [rwL]
      refine (concatpair d _ (fun b => Z b ∨ w.heap.size ≤ b) [(oa, oc, out), (aa, ca, l), (ab, cb, r)] wr.heap.size (Blk.new _ _ _) ?_ (by rw [hrw, ← HU.out]; simp; omega) (by simp)).mono ?_
      · intro q hq
        simp only [List.mem_cons, List.not_mem_nil, or_false] at hq
        rcases hq with rfl | rfl | rfl
        · exact PrsR.go (HO.out.row (famP d) (by omega)) (keepT (below_alloc _)) (fun _ _ => trivial) (fun b hz => hz.elim id Or.inr)
        · exact PrsR.go HR.out.1 (keepT (by have := HB.out; exact blBy)) (fun _ _ => trivial) (fun b hz => Or.inl hz)
        · exact PrsR.go HR.out.2 (keepT (by have := HB.out; exact blBy)) (fun _ _ => trivial) (fun b hz => Or.inl hz)
      rintro e w2 ⟨a2, c2, rfl, ho, hbx⟩
      rw [hrw] at ho ⊢
      have HO2 := hid ho
      have HB2 : Hid (Below w.heap.size w w2) := hid (bl_then (by have := HB.out; exact blBy) hbx)
      have HL2 : Hid ((uni ord bt xs ys).length ≤ 4000000) := hid (by rw [← HU.out]; simp; omega)
      have hsz := HB.out.size
      clear ho hbx hrw HN HO HR HQ
      go_wp2
      go_ret
      exact ⟨a2, c2, rfl, PrsR.go (HO2.out.row (famP d) HL2.out) (Keep.refl (fun _ => True) w2) (fun _ _ => trivial) (fun b hz => hz.elim id (fun h => Or.inr (Nat.le_trans (Nat.le_trans hsz (Nat.le_succ _)) (by simpa using h)))), HB2.out⟩
    · have k1 : (0 : Int) < (n1 : Int) := by omega
      by_cases hz2 : n2 = 0
      · have k2 : ((0 : Int) < (n2 : Int)) = False := eq_false (by omega)
        have k2' : (0 < n2) = False := eq_false (by omega)
        have HU : Hid (out ++ (l ++ r) = uni ord bt xs ys) := hid (by obtain rfl : r = [] := List.eq_nil_of_length_eq_zero (by rw [HN.out.2.1]; exact hz2); rw [← HQ.out.2.2, uni_nilR, List.append_nil])
        clear hz2
        go_wp2_with fail
        obtain ⟨rfl, rfl, rfl⟩ := HN.out
        have hrw : rwL [(oa, oc, out), (aa, ca, l), (ab, cb, r)] = uni ord bt xs ys := by rw [← HU.out]; simp [rwL]
        refine (concatpair d _ (fun b => Z b ∨ w.heap.size ≤ b) [(oa, oc, out), (aa, ca, l), (ab, cb, r)] wr.heap.size (Blk.new _ _ _) ?_ (by rw [hrw, ← HU.out]; simp; omega) (by simp)).mono ?_
        · intro q hq
          simp only [List.mem_cons, List.not_mem_nil, or_false] at hq
          rcases hq with rfl | rfl | rfl
          · exact PrsR.go (HO.out.row (famP d) (by omega)) (keepT (below_alloc _)) (fun _ _ => trivial) (fun b hz => hz.elim id Or.inr)
          · exact PrsR.go HR.out.1 (keepT (by have := HB.out; exact blBy)) (fun _ _ => trivial) (fun b hz => Or.inl hz)
          · exact PrsR.go HR.out.2 (keepT (by have := HB.out; exact blBy)) (fun _ _ => trivial) (fun b hz => Or.inl hz)
        rintro e w2 ⟨a2, c2, rfl, ho, hbx⟩
        rw [hrw] at ho ⊢
        have HO2 := hid ho
        have HB2 : Hid (Below w.heap.size w w2) := hid (bl_then (by have := HB.out; exact blBy) hbx)
        have HL2 : Hid ((uni ord bt xs ys).length ≤ 4000000) := hid (by rw [← HU.out]; simp; omega)
        have hsz := HB.out.size
        clear ho hbx hrw HN HO HR HQ
        go_wp2
        go_ret
        exact ⟨a2, c2, rfl, PrsR.go (HO2.out.row (famP d) HL2.out) (Keep.refl (fun _ => True) w2) (fun _ _ => trivial) (fun b hz => hz.elim id (fun h => Or.inr (Nat.le_trans (Nat.le_trans hsz (Nat.le_succ _)) (by simpa using h)))), HB2.out⟩
      · have k2 : (0 : Int) < (n2 : Int) := by omega
        obtain ⟨x, l, rfl⟩ : ∃ x l', l = x :: l' := List.exists_cons_of_length_pos (by rw [HN.out.1]; omega)
        obtain ⟨y, r, rfl⟩ : ∃ y r', r = y :: r' := List.exists_cons_of_length_pos (by rw [HN.out.2.1]; omega)
        obtain ⟨b1, o1, ka, kc, va, vc, ka1, kc1, va1, vc1, rfl, -, hb1, c0, c1, c2, c3, c4, c5, he⟩ := prs_at HR.out.1 (i := 0) (by simp)
        obtain ⟨b2, o2, kb, kd, vb, vd, kb1, kd1, vb1, vd1, rfl, -, hb2, d0, d1, d2, d3, d4, d5, hf⟩ := prs_at HR.out.2 (i := 0) (by simp)
        simp only [Nat.zero_mul, Nat.add_zero, List.getElem_cons_zero] at c0 c1 c2 c3 c4 c5 d0 d1 d2 d3 d4 d5 he hf
        have HE := hid he
        have HG := hid hf
        have HEO := hid ((famP d).old he)
        have HGO := hid ((famP d).old hf)
        have HEY : Hid (FmP d w (fun b => Z b ∨ w.heap.size ≤ b) [.int .u64 x.1.n, .slice ka x.1.b.length kc, .slice va x.1.ms.length vc, .int .u64 x.2.n, .slice ka1 x.2.b.length kc1, .slice va1 x.2.ms.length vc1] x) := hid (Fam.go (famP d) he (Keep.refl (fun _ => True) w) (fun _ _ => trivial) (fun _ h => Or.inl h))
        have HGY : Hid (FmP d w (fun b => Z b ∨ w.heap.size ≤ b) [.int .u64 y.1.n, .slice kb y.1.b.length kd, .slice vb y.1.ms.length vd, .int .u64 y.2.n, .slice kb1 y.2.b.length kd1, .slice vb1 y.2.ms.length vd1] y) := hid (Fam.go (famP d) hf (Keep.refl (fun _ => True) w) (fun _ _ => trivial) (fun _ h => Or.inl h))
        have C0 := hid c0
        have C1 := hid c1
        have C2 := hid c2
        have C3 := hid c3
        have C4 := hid c4
        have C5 := hid c5
        have D0 := hid d0
        have D1 := hid d1
        have D2 := hid d2
        have D3 := hid d3
        have D4 := hid d4
        have D5 := hid d5
        replace c0 := cell_below c0 HB.out
        replace c1 := cell_below c1 HB.out
        replace c2 := cell_below c2 HB.out
        replace c3 := cell_below c3 HB.out
        replace c4 := cell_below c4 HB.out
        replace c5 := cell_below c5 HB.out
        replace d0 := cell_below d0 HB.out
        replace d1 := cell_below d1 HB.out
        replace d2 := cell_below d2 HB.out
        replace d3 := cell_below d3 HB.out
        replace d4 := cell_below d4 HB.out
        replace d5 := cell_below d5 HB.out
        have k5 : (1 : Int) ≤ (n1 : Int) := by omega
        have k6 : (1 : Int) ≤ (n2 : Int) := by omega
        have k5' : 1 ≤ n1 := by omega
        have k6' : 1 ≤ n2 := by omega
        have m1 : (n1 : Int) ≤ 9223372036854775807 := by omega
        have m2 : (n2 : Int) ≤ 9223372036854775807 := by omega
        clear he hf
        go_wp2_with fail
        go_region_held3 (fun W => W.cell? ⟨b1, o1, none⟩ = some (.int .u64 x.1.n) ∧ W.cell? ⟨b1, o1 + 1, none⟩ = some (.slice ka x.1.b.length kc) ∧ W.cell? ⟨b1, o1 + 2, none⟩ = some (.slice va x.1.ms.length vc) ∧ W.cell? ⟨b1, o1 + 3, none⟩ = some (.int .u64 x.2.n) ∧ W.cell? ⟨b1, o1 + 4, none⟩ = some (.slice ka1 x.2.b.length kc1) ∧ W.cell? ⟨b1, o1 + 5, none⟩ = some (.slice va1 x.2.ms.length vc1) ∧ W.cell? ⟨b2, o2, none⟩ = some (.int .u64 y.1.n) ∧ W.cell? ⟨b2, o2 + 1, none⟩ = some (.slice kb y.1.b.length kd) ∧ W.cell? ⟨b2, o2 + 2, none⟩ = some (.slice vb y.1.ms.length vd) ∧ W.cell? ⟨b2, o2 + 3, none⟩ = some (.int .u64 y.2.n) ∧ W.cell? ⟨b2, o2 + 4, none⟩ = some (.slice kb1 y.2.b.length kd1) ∧ W.cell? ⟨b2, o2 + 5, none⟩ = some (.slice vb1 y.2.ms.length vd1)) (exact ⟨c0, c1, c2, c3, c4, c5, d0, d1, d2, d3, d4, d5⟩) (first | (go_at_call 104; refine (HOR.out _ (by have := HB.out; exact blBy) _ _ x y (HQ.out.1 x (List.mem_cons_self ..)) (HQ.out.2.1 y (List.mem_cons_self ..)) (HE.out.kept (by have := HB.out; exact blBy)) (HG.out.kept (by have := HB.out; exact blBy))).mono ?_; rintro e w1 ⟨rfl, hbx⟩; replace c0 := cell_below c0 (below_trans (by first | exact Below.refl _ _ | exact below_drew1 _ | exact below_drewN _ _) hbx); replace c1 := cell_below c1 (below_trans (by first | exact Below.refl _ _ | exact below_drew1 _ | exact below_drewN _ _) hbx); replace c2 := cell_below c2 (below_trans (by first | exact Below.refl _ _ | exact below_drew1 _ | exact below_drewN _ _) hbx); replace c3 := cell_below c3 (below_trans (by first | exact Below.refl _ _ | exact below_drew1 _ | exact below_drewN _ _) hbx); replace c4 := cell_below c4 (below_trans (by first | exact Below.refl _ _ | exact below_drew1 _ | exact below_drewN _ _) hbx); replace c5 := cell_below c5 (below_trans (by first | exact Below.refl _ _ | exact below_drew1 _ | exact below_drewN _ _) hbx); replace d0 := cell_below d0 (below_trans (by first | exact Below.refl _ _ | exact below_drew1 _ | exact below_drewN _ _) hbx); replace d1 := cell_below d1 (below_trans (by first | exact Below.refl _ _ | exact below_drew1 _ | exact below_drewN _ _) hbx); replace d2 := cell_below d2 (below_trans (by first | exact Below.refl _ _ | exact below_drew1 _ | exact below_drewN _ _) hbx); replace d3 := cell_below d3 (below_trans (by first | exact Below.refl _ _ | exact below_drew1 _ | exact below_drewN _ _) hbx); replace d4 := cell_below d4 (below_trans (by first | exact Below.refl _ _ | exact below_drew1 _ | exact below_drewN _ _) hbx); replace d5 := cell_below d5 (below_trans (by first | exact Below.refl _ _ | exact below_drew1 _ | exact below_drewN _ _) hbx); replace HO := hid (HO.out.kept (famP d) (below_trans (by first | exact Below.refl _ _ | exact below_drew1 _ | exact below_drewN _ _) hbx)); replace HB := hid (bl_then HB.out (below_trans (by first | exact Below.refl _ _ | exact below_drew1 _ | exact below_drewN _ _) hbx)); clear hbx))
        rcases Int.lt_trichotomy (ord x y) 0 with hq | hq | hq
        · have k3 : (ord x y < 0) = True := eq_true hq
          have HOd := hid (HO.out.kept (famP d) (below_drew1 w1))
          have HZ : Hid (FmP d w1.drew (ZofA w1.drew (fun b => Z b ∨ w.heap.size ≤ b) (.slice oa n oc)) [.int .u64 x.1.n, .slice ka x.1.b.length kc, .slice va x.1.ms.length vc, .int .u64 x.2.n, .slice ka1 x.2.b.length kc1, .slice va1 x.2.ms.length vc1] x) := hid (zofA_old (famP d) HOd.out HEY.out (bl_then HB.out (below_drew1 _)))
          obtain ⟨la, lc, x1, HRUN, HO2, HGr⟩ := OwnA.push (famP d) 166 170 112 (.agg #[.int .u64 0, .slice none 0 0, .slice none 0 0, .int .u64 0, .slice none 0 0, .slice none 0 0]) Tryz.underlying170 Tryz.infoP rfl (by decide) (by decide) HOd.out HZ.out HB.out.size (by rw [HN.out.2.2]; omega)
          rw [HN.out.2.2] at HRUN HO2 HGr
          have HBd := hid (bl_then HB.out (below_drew1 _))
          have HB2 := hid (HBd.out.trans (HOd.out.bel HGr.out (Nat.le_refl _) HBd.out.size))
          go_wp2_with fail
          go_region_held3 (fun W => W.cell? ⟨b1, o1, none⟩ = some (.int .u64 x.1.n) ∧ W.cell? ⟨b1, o1 + 1, none⟩ = some (.slice ka x.1.b.length kc) ∧ W.cell? ⟨b1, o1 + 2, none⟩ = some (.slice va x.1.ms.length vc) ∧ W.cell? ⟨b1, o1 + 3, none⟩ = some (.int .u64 x.2.n) ∧ W.cell? ⟨b1, o1 + 4, none⟩ = some (.slice ka1 x.2.b.length kc1) ∧ W.cell? ⟨b1, o1 + 5, none⟩ = some (.slice va1 x.2.ms.length vc1)) (first | exact ⟨c0, c1, c2, c3, c4, c5⟩ | exact ⟨cell_below C0.out HB2.out, cell_below C1.out HB2.out, cell_below C2.out HB2.out, cell_below C3.out HB2.out, cell_below C4.out HB2.out, cell_below C5.out HB2.out⟩ | exact ⟨cell_below c0 (by exact blBy), cell_below c1 (by exact blBy), cell_below c2 (by exact blBy), cell_below c3 (by exact blBy), cell_below c4 (by exact blBy), cell_below c5 (by exact blBy)⟩) (first | (refine step_append_ran rfl _ _ 170 170 rfl rfl _ _ (.slice la (n + 1) lc) x1 rfl rfl HRUN.out ?_))
          go_wp2
          exact ⟨⟨l, y :: r, out ++ [x], n1 - 1, n2, n + 1, _, _, la, ca - 1, cb, lc, rfl, rfl, rfl, hid ⟨by have := HN.out.1; simp at this; omega, HN.out.2.1, by rw [List.length_append, HN.out.2.2]; rfl⟩, by omega, hid ⟨RowM.tl HR.out.1, HR.out.2⟩, hid ⟨fun z hz => HQ.out.1 z (List.mem_cons_of_mem _ hz), HQ.out.2.1, by rw [← HQ.out.2.2, uni_lt hq]; simp⟩, HO2, HB2⟩, by simp [lnV]; omega⟩
        · have k3 : (ord x y < 0) = False := eq_false (by omega)
          have k4 : (0 < ord x y) = False := eq_false (by omega)
          obtain ⟨ta, T1, HR1⟩ : ∃ ta, (∀ W, (Instr.sliceAt 170 (.slice (some ⟨b1, o1, none⟩) n1 ca) (some (.int .i64 1)) none none).run Tryz.prog W = .ok (.slice ta (n1 - 1) (ca - 1)) W) ∧ Hid (PrsR w Z d (.slice ta (n1 - 1) (ca - 1)) l) := ⟨_, tailRunP b1 o1 n1 ca k5', hid (RowM.tl HR.out.1)⟩
          obtain ⟨tb, T2, HR2⟩ : ∃ tb, (∀ W, (Instr.sliceAt 170 (.slice (some ⟨b2, o2, none⟩) n2 cb) (some (.int .i64 1)) none none).run Tryz.prog W = .ok (.slice tb (n2 - 1) (cb - 1)) W) ∧ Hid (PrsR w Z d (.slice tb (n2 - 1) (cb - 1)) r) := ⟨_, tailRunP b2 o2 n2 cb k6', hid (RowM.tl HR.out.2)⟩
          go_wp2_with fail
          go_region_held3 (fun W => W.cell? ⟨b1, o1, none⟩ = some (.int .u64 x.1.n) ∧ W.cell? ⟨b1, o1 + 1, none⟩ = some (.slice ka x.1.b.length kc) ∧ W.cell? ⟨b1, o1 + 2, none⟩ = some (.slice va x.1.ms.length vc) ∧ W.cell? ⟨b1, o1 + 3, none⟩ = some (.int .u64 x.2.n) ∧ W.cell? ⟨b1, o1 + 4, none⟩ = some (.slice ka1 x.2.b.length kc1) ∧ W.cell? ⟨b1, o1 + 5, none⟩ = some (.slice va1 x.2.ms.length vc1) ∧ W.cell? ⟨b2, o2, none⟩ = some (.int .u64 y.1.n) ∧ W.cell? ⟨b2, o2 + 1, none⟩ = some (.slice kb y.1.b.length kd) ∧ W.cell? ⟨b2, o2 + 2, none⟩ = some (.slice vb y.1.ms.length vd) ∧ W.cell? ⟨b2, o2 + 3, none⟩ = some (.int .u64 y.2.n) ∧ W.cell? ⟨b2, o2 + 4, none⟩ = some (.slice kb1 y.2.b.length kd1) ∧ W.cell? ⟨b2, o2 + 5, none⟩ = some (.slice vb1 y.2.ms.length vd1)) (first | exact ⟨c0, c1, c2, c3, c4, c5, d0, d1, d2, d3, d4, d5⟩ | exact ⟨cell_below C0.out HB2.out, cell_below C1.out HB2.out, cell_below C2.out HB2.out, cell_below C3.out HB2.out, cell_below C4.out HB2.out, cell_below C5.out HB2.out, cell_below D0.out HB2.out, cell_below D1.out HB2.out, cell_below D2.out HB2.out, cell_below D3.out HB2.out, cell_below D4.out HB2.out, cell_below D5.out HB2.out⟩ | exact ⟨cell_below c0 (by exact blBy), cell_below c1 (by exact blBy), cell_below c2 (by exact blBy), cell_below c3 (by exact blBy), cell_below c4 (by exact blBy), cell_below c5 (by exact blBy), cell_below d0 (by exact blBy), cell_below d1 (by exact blBy), cell_below d2 (by exact blBy), cell_below d3 (by exact blBy), cell_below d4 (by exact blBy), cell_below d5 (by exact blBy)⟩) (first | (refine step_append_ran rfl _ _ 170 170 rfl rfl _ _ (.slice la (n + 1) lc) x1 rfl rfl HRUN.out ?_) | (go_at_call 108; refine (HF.out _ (by have := HB.out; exact blBy) _ _ x y (HQ.out.1 x (List.mem_cons_self ..)) (HQ.out.2.1 y (List.mem_cons_self ..)) hq (HEO.out.kept (by have := HB.out; exact blBy)) (HGO.out.kept (by have := HB.out; exact blBy))).mono ?_; rintro e w2 ⟨es, rfl, hes, hbx⟩; have HZ := hid (zofA_new (famP d) (HO.out.kept (famP d) (by first | exact Below.refl _ _ | exact below_drew1 _ | exact below_drewN _ _)) HB.out.size hes); replace c0 := cell_below c0 (below_trans (by first | exact Below.refl _ _ | exact below_drew1 _ | exact below_drewN _ _) hbx); replace c1 := cell_below c1 (below_trans (by first | exact Below.refl _ _ | exact below_drew1 _ | exact below_drewN _ _) hbx); replace c2 := cell_below c2 (below_trans (by first | exact Below.refl _ _ | exact below_drew1 _ | exact below_drewN _ _) hbx); replace c3 := cell_below c3 (below_trans (by first | exact Below.refl _ _ | exact below_drew1 _ | exact below_drewN _ _) hbx); replace c4 := cell_below c4 (below_trans (by first | exact Below.refl _ _ | exact below_drew1 _ | exact below_drewN _ _) hbx); replace c5 := cell_below c5 (below_trans (by first | exact Below.refl _ _ | exact below_drew1 _ | exact below_drewN _ _) hbx); replace d0 := cell_below d0 (below_trans (by first | exact Below.refl _ _ | exact below_drew1 _ | exact below_drewN _ _) hbx); replace d1 := cell_below d1 (below_trans (by first | exact Below.refl _ _ | exact below_drew1 _ | exact below_drewN _ _) hbx); replace d2 := cell_below d2 (below_trans (by first | exact Below.refl _ _ | exact below_drew1 _ | exact below_drewN _ _) hbx); replace d3 := cell_below d3 (below_trans (by first | exact Below.refl _ _ | exact below_drew1 _ | exact below_drewN _ _) hbx); replace d4 := cell_below d4 (below_trans (by first | exact Below.refl _ _ | exact below_drew1 _ | exact below_drewN _ _) hbx); replace d5 := cell_below d5 (below_trans (by first | exact Below.refl _ _ | exact below_drew1 _ | exact below_drewN _ _) hbx); replace HO := hid (HO.out.kept (famP d) (below_trans (by first | exact Below.refl _ _ | exact below_drew1 _ | exact below_drewN _ _) hbx)); replace HB := hid (bl_then HB.out (below_trans (by first | exact Below.refl _ _ | exact below_drew1 _ | exact below_drewN _ _) hbx)); clear hes hbx; obtain ⟨ka2, kc2, va2, vc2, ka3, kc3, va3, vc3, rfl, -⟩ := prs_open HZ.out; obtain ⟨la, lc, x1, HRUN, HO2, HGr⟩ := OwnA.push (famP d) 166 170 112 (.agg #[.int .u64 0, .slice none 0 0, .slice none 0 0, .int .u64 0, .slice none 0 0, .slice none 0 0]) Tryz.underlying170 Tryz.infoP rfl (by decide) (by decide) HO.out HZ.out HB.out.size (by rw [HN.out.2.2]; omega); rw [HN.out.2.2] at HRUN HO2 HGr; have HB2 := hid (HB.out.trans (HO.out.bel HGr.out (Nat.le_refl _) HB.out.size))))
          go_wp2
          exact ⟨⟨l, r, out ++ [bt x y], n1 - 1, n2 - 1, n + 1, _, _, la, ca - 1, cb - 1, lc, rfl, rfl, rfl, hid ⟨by have := HN.out.1; simp at this; omega, by have := HN.out.2.1; simp at this; omega, by rw [List.length_append, HN.out.2.2]; rfl⟩, by omega, hid ⟨HR1.out, HR2.out⟩, hid ⟨fun z hz => HQ.out.1 z (List.mem_cons_of_mem _ hz), fun z hz => HQ.out.2.1 z (List.mem_cons_of_mem _ hz), by rw [← HQ.out.2.2, uni_eq hq]; simp⟩, HO2, HB2⟩, by simp [lnV]; omega⟩
        · have k3 : (ord x y < 0) = False := eq_false (by omega)
          have k4 : (0 < ord x y) = True := eq_true hq
          have HOd := hid (HO.out.kept (famP d) (below_drew1 w1))
          have HZ : Hid (FmP d w1.drew (ZofA w1.drew (fun b => Z b ∨ w.heap.size ≤ b) (.slice oa n oc)) [.int .u64 y.1.n, .slice kb y.1.b.length kd, .slice vb y.1.ms.length vd, .int .u64 y.2.n, .slice kb1 y.2.b.length kd1, .slice vb1 y.2.ms.length vd1] y) := hid (zofA_old (famP d) HOd.out HGY.out (bl_then HB.out (below_drew1 _)))
          obtain ⟨la, lc, x1, HRUN, HO2, HGr⟩ := OwnA.push (famP d) 166 170 112 (.agg #[.int .u64 0, .slice none 0 0, .slice none 0 0, .int .u64 0, .slice none 0 0, .slice none 0 0]) Tryz.underlying170 Tryz.infoP rfl (by decide) (by decide) HOd.out HZ.out HB.out.size (by rw [HN.out.2.2]; omega)
          rw [HN.out.2.2] at HRUN HO2 HGr
          have HBd := hid (bl_then HB.out (below_drew1 _))
          have HB2 := hid (HBd.out.trans (HOd.out.bel HGr.out (Nat.le_refl _) HBd.out.size))
          go_wp2_with fail
          go_region_held3 (fun W => W.cell? ⟨b2, o2, none⟩ = some (.int .u64 y.1.n) ∧ W.cell? ⟨b2, o2 + 1, none⟩ = some (.slice kb y.1.b.length kd) ∧ W.cell? ⟨b2, o2 + 2, none⟩ = some (.slice vb y.1.ms.length vd) ∧ W.cell? ⟨b2, o2 + 3, none⟩ = some (.int .u64 y.2.n) ∧ W.cell? ⟨b2, o2 + 4, none⟩ = some (.slice kb1 y.2.b.length kd1) ∧ W.cell? ⟨b2, o2 + 5, none⟩ = some (.slice vb1 y.2.ms.length vd1)) (first | exact ⟨d0, d1, d2, d3, d4, d5⟩ | exact ⟨cell_below D0.out HB2.out, cell_below D1.out HB2.out, cell_below D2.out HB2.out, cell_below D3.out HB2.out, cell_below D4.out HB2.out, cell_below D5.out HB2.out⟩ | exact ⟨cell_below d0 (by exact blBy), cell_below d1 (by exact blBy), cell_below d2 (by exact blBy), cell_below d3 (by exact blBy), cell_below d4 (by exact blBy), cell_below d5 (by exact blBy)⟩) (first | (refine step_append_ran rfl _ _ 170 170 rfl rfl _ _ (.slice la (n + 1) lc) x1 rfl rfl HRUN.out ?_))
          go_wp2
          exact ⟨⟨x :: l, r, out ++ [y], n1, n2 - 1, n + 1, _, _, la, ca, cb - 1, lc, rfl, rfl, rfl, hid ⟨HN.out.1, by have := HN.out.2.1; simp at this; omega, by rw [List.length_append, HN.out.2.2]; rfl⟩, by omega, hid ⟨HR.out.1, RowM.tl HR.out.2⟩, hid ⟨HQ.out.1, fun z hz => HQ.out.2.1 z (List.mem_cons_of_mem _ hz), by rw [← HQ.out.2.2, uni_gt hq]; simp⟩, HO2, HB2⟩, by simp [lnV]; omega⟩
end Go.Proofs.YtkifjpaoncjokaaGreatDoor
