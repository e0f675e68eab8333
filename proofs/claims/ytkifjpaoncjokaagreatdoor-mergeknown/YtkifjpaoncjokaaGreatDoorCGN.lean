/-
  Both maps.
  What is merged is typed; brackets make no difference.
  Merging: brackets make no difference; the empty message changes nothing.
  How long the lists of what is merged are.
-/
import Derived.Test.YtkifjpaoncjokaaGreatDoorCGE
import Derived.Test.YtkifjpaoncjokaaGreatDoorCBN
namespace Go.Proofs.YtkifjpaoncjokaaGreatDoor
open Go.RowKit
set_option maxRecDepth 1000000
set_option linter.unusedVariables false
set_option linter.unusedSimpArgs false
set_option maxHeartbeats 8000000
/-- Two rows that grow beside each other, from the world wX on. -/
structure Tw (wX : World) (p N : Nat) (Y : Nat → Prop) (d : Nat) (W : World) (v1 : Value) (xs : List (CV CM)) (v2 : Value) (ys : List (CV CM)) : Prop where
  o1 : OwnY W N Y 39 3 (FmV d) v1 xs
  o2 : OwnY W N Y 39 3 (FmV d) v2 ys
  ap : ∀ b, v1.ownBlock = some b → v2.ownBlock ≠ some b
  kp : Keep (fun b => b < N ∨ b = p) wX W
  l1 : ∀ b, v1.ownBlock = some b → b ≠ p
  l2 : ∀ b, v2.ownBlock = some b → b ≠ p
theorem Tw.kept {wX W W' : World} {p N d : Nat} {Y : Nat → Prop} {v1 v2 : Value} {xs ys : List (CV CM)} (h : Tw wX p N Y d W v1 xs v2 ys) (g : Below W.heap.size W W') : Tw wX p N Y d W' v1 xs v2 ys :=
  ⟨h.o1.kept (famV d) g, h.o2.kept (famV d) g, h.ap, h.kp.trans (Keep.ofBelow g), h.l1, h.l2⟩
theorem Tw.swap {wX W : World} {p N d : Nat} {Y : Nat → Prop} {v1 v2 : Value} {xs ys : List (CV CM)} (h : Tw wX p N Y d W v1 xs v2 ys) : Tw wX p N Y d W v2 ys v1 xs :=
  ⟨h.o2, h.o1, fun b e1 e2 => h.ap b e2 e1, h.kp, h.l2, h.l1⟩
theorem Tw.push {wX W : World} {p N d : Nat} {Y : Nat → Prop} {v1 v2 : Value} {xs ys : List (CV CM)} {cs : List Value} {x : CV CM} {vb : Nat} (h : Tw wX p N Y d W v1 xs v2 ys) (hx : FmV d wX Y cs x) (hb : Blk W vb 39 cs.toArray) (hN : N ≤ wX.heap.size) (hp : p < wX.heap.size) (hY : ∀ b, Y b → b < N) (hf : ∀ b, v1.ownBlock = some b → b < wX.heap.size) (hn : xs.length + 1 ≤ 4000000) :
    ∃ a c W', Hid ((Builtin.append_ #[31, 31] 31 #[v1, .slice (some ⟨vb, 0, none⟩) 1 1]).run Tryz.prog W = .ok (.slice a (xs.length + 1) c) W') ∧ Hid (Tw wX p N Y d W' (.slice a (xs.length + 1) c) (xs ++ [x]) v2 ys) ∧ Hid (∀ b cs, wX.heap.size ≤ b → Blk W b 39 cs → Blk W' b 39 cs) ∧ Hid (W.heap.size ≤ W'.heap.size) := by
  have hx' : FmV d W Y cs x := Fam.go (famV d) hx h.kp (fun b hb => Or.inl (hY b hb)) (fun _ h => h)
  obtain ⟨a, c, W', r1, r2, r3⟩ := OwnY.one (famV d) 39 31 56 (.agg #[.int .u64 0, .slice none 0 0, .slice none 0 0]) Tryz.underlying31 Tryz.infoV rfl (by decide) (by decide) h.o1 hx' hb (Nat.le_trans hN h.kp.size) hY hn
  have g := r3.out
  have hk : Keep (fun b => v1.ownBlock ≠ some b) W W' := Keep.ofGrow g (fun _ hk => hk)
  refine ⟨a, c, W', r1, hid ⟨r2.out, h.o2.keep (famV d) hk (fun b hb e => by have := (h.o1.own e).1; have := hY b hb; omega) (fun b e1 e2 => h.ap b e2 e1), ?_, h.kp.trans (hk.weak (fun b hb e => ?_)), ?_, h.l2⟩, hid (fun b cs hb hB => hB.keep hk (fun e => by have := hf b e; omega)), hid g.size⟩
  · intro b e1 e2
    rcases g.own with q | q
    · rw [q] at e1
      exact h.ap b e1 e2
    · have := q b e1
      have := (h.o2.own e2).2
      omega
  · rcases hb with hb | hb
    · have := (h.o1.own e).1
      omega
    · exact h.l1 b e hb
  · intro b e1
    rcases g.own with q | q
    · rw [q] at e1
      exact h.l1 b e1
    · have := q b e1
      have := h.kp.size
      omega
theorem prs_two {d : Nat} {w : World} {Z : Nat → Prop} {p : CV CM × CV CM} {ba ma da na : Option Addr} {bc mc dc nc : Nat} (h : FmP d w Z [.int .u64 p.1.n, .slice ba p.1.b.length bc, .slice ma p.1.ms.length mc, .int .u64 p.2.n, .slice da p.2.b.length dc, .slice na p.2.ms.length nc] p) : FmV d w Z [.int .u64 p.1.n, .slice ba p.1.b.length bc, .slice ma p.1.ms.length mc] p.1 ∧ FmV d w Z [.int .u64 p.2.n, .slice da p.2.b.length dc, .slice na p.2.ms.length nc] p.2 := by
  obtain ⟨_, _, _, _, _, _, _, _, e, h1, h2⟩ := prs_open h
  simp only [List.cons.injEq, Value.slice.injEq, true_and, and_true] at e
  obtain ⟨⟨rfl, rfl⟩, ⟨rfl, rfl⟩, ⟨rfl, rfl⟩, rfl, rfl⟩ := e
  exact ⟨h1, h2⟩
theorem unionK {d : Nat} (w : World) (Z : Nat → Prop) (o : FT) (f g : CF CM) (pa : Option Addr) (pc : Nat) (pb : Option Addr) (pd : Nat) (p : Nat) (h1 : PrsR w Z d (.slice pa f.ks.length pc) (prs f)) (h2 : PrsR w Z d (.slice pb g.ks.length pd) (prs g)) (hl1 : f.ks.length ≤ f.vs.length) (hl2 : g.ks.length ≤ g.vs.length) (hn : f.ks.length + g.ks.length ≤ 4000000) (hp : Blk w p 65 #[.string (strOfNums o.name), .int .i64 o.num, .int .i64 o.kind, .int .i64 o.ref, .int .i64 o.lab, .int .i64 o.one, .int .i64 o.key]) :
    Calls Tryz.prog 106 #[.slice pa f.ks.length pc, .slice pb g.ks.length pd, .func (.func 104) #[] #[.pointer (some ⟨p, 0, none⟩)], .func (.func 108) #[] #[]] w fun e w' => ∃ a' c', e = .returned (.slice a' (uni (kOrd o.key) (fun _ q => q) (prs f) (prs g)).length c') ∧ PrsR w' (fun b => Z b ∨ w.heap.size ≤ b) d (.slice a' (uni (kOrd o.key) (fun _ q => q) (prs f) (prs g)).length c') (uni (kOrd o.key) (fun _ q => q) (prs f) (prs g)) ∧ Below w.heap.size w w' := by
  have e1 := prs_len hl1
  have e2 := prs_len hl2
  rw [← e1] at h1 hn ⊢
  rw [← e2] at h2 hn ⊢
  refine unionP d w Z (prs f) (prs g) pa pb pc pd h1 h2 _ (kOrd o.key) (fun _ q => q) hn ?_ ?_
  · intro W hW cs ds x y hx hy g1 g2
    exact keyT d W Z cs ds x y g1 g2 o p (hp.kept hW)
  · intro W hW cs ds x y hx hy e g1 g2
    exact (sndT d W _ cs ds x y g1 g2).mono fun e w' ⟨he, hb⟩ => ⟨ds, he, Fam.go (famP d) g2 (keepT hb) (fun _ _ => trivial) (fun _ h => Or.inl h), hb⟩
theorem bothMapsT (d : Nat) (w : World) (Z : Nat → Prop) (o : FT) (cs ds : List Value) (f g : CF CM) (h1 : FmF d w Z cs f) (h2 : FmF d w Z ds g) (hl1 : f.ks.length ≤ f.vs.length) (hl2 : g.ks.length ≤ g.vs.length) (hn : f.ks.length + g.ks.length ≤ 4000000) (ho : I64 o.num) : Calls Tryz.prog 85 #[.agg #[.string (strOfNums o.name), .int .i64 o.num, .int .i64 o.kind, .int .i64 o.ref, .int .i64 o.lab, .int .i64 o.one, .int .i64 o.key], .agg cs.toArray, .agg ds.toArray] w fun e w' => ∃ es : List Value, e = .returned (.agg es.toArray) ∧ FmF d w' (fun b => Z b ∨ w.heap.size ≤ b) es (mapM o f g) ∧ Below w.heap.size w w' := by
  have H1 := hid (Fam.old (famF d) h1)
  have H2 := hid (Fam.old (famF d) h2)
  obtain ⟨ka, kc, va, vc, rfl, -⟩ := fld_open h1
  obtain ⟨kb, kd, vb, vd, rfl, -⟩ := fld_open h2
  have HO := hid ho
  have HN := hid hn
  have HL1 := hid hl1
  have HL2 := hid hl2
  clear h1 h2 ho hn hl1 hl2
  go_enter Tryz.func85, Tryz.ntmps85
  go_wp2_with fail
  generalize hw0 : World.alloc (World.alloc (World.alloc (World.alloc (World.alloc w _) _) _) _) _ = w0
  have HB0 : Hid (Below w.heap.size w w0) := hid (hw0 ▸ (by exact blBy))
  have HS0 : Hid (w0.heap.size = w.heap.size + 1 + 1 + 1 + 1 + 1) := hid (by rw [← hw0]; simp)
  have BF : Hid (Blk w0 w.heap.size 65 #[.string (strOfNums o.name), .int .i64 o.num, .int .i64 o.kind, .int .i64 o.ref, .int .i64 o.lab, .int .i64 o.one, .int .i64 o.key]) := hid (hw0 ▸ (((((Blk.new _ _ _).kept (below_alloc _)).kept (below_alloc _)).kept (below_alloc _)).kept (below_alloc _)))
  have BA : Hid (Blk w0 (w.heap.size + 1) 33 #[.int .i64 f.num, .slice ka f.ks.length kc, .slice va f.vs.length vc]) := hid (hw0 ▸ ((((Blk.newAt (by simp)).kept (below_alloc _)).kept (below_alloc _)).kept (below_alloc _)))
  have BB : Hid (Blk w0 (w.heap.size + 1 + 1) 33 #[.int .i64 g.num, .slice kb g.ks.length kd, .slice vb g.vs.length vd]) := hid (hw0 ▸ (((Blk.newAt (by simp)).kept (below_alloc _)).kept (below_alloc _)))
  have BR : Hid (Blk w0 (w.heap.size + 1 + 1 + 1) 33 #[.int .i64 0, .slice none 0 0, .slice none 0 0]) := hid (hw0 ▸ ((Blk.newAt (by simp)).kept (below_alloc _)))
  have BQ : Hid (Blk w0 (w.heap.size + 1 + 1 + 1 + 1) 33 #[.int .i64 o.num, .slice none 0 0, .slice none 0 0]) := hid (hw0 ▸ (Blk.newAt (by simp)))
  clear hw0
  generalize hq1 : w.heap.size + 1 = q1 at *
  generalize hq2 : q1 + 1 = q2 at *
  generalize hq3 : q2 + 1 = q3 at *
  generalize hq : q3 + 1 = q at *
  have HQ : Hid (q1 = w.heap.size + 1 ∧ q2 = w.heap.size + 2 ∧ q3 = w.heap.size + 3 ∧ q = w.heap.size + 4) := hid (by omega)
  clear hq1 hq2 hq3 hq
  have HP1 := hid fun W (hW : Below w.heap.size w W) => pairsT d W _ _ f (FldE.kept H1.out hW) HL1.out
  have HP2 := hid fun W (hW : Below w.heap.size w W) => pairsT d W _ _ g (FldE.kept H2.out hW) HL2.out
  have HW : Hid (Below w0.heap.size w0 w0) := hid (Below.refl _ _)
  have HSF : Hid (∀ W, Below w0.heap.size w0 W → (fun W => W.cell? ⟨q1, 0, none⟩ = some (.int .i64 f.num) ∧ W.cell? ⟨q1, 1, none⟩ = some (.slice ka f.ks.length kc) ∧ W.cell? ⟨q1, 2, none⟩ = some (.slice va f.vs.length vc) ∧ W.cell? ⟨q2, 0, none⟩ = some (.int .i64 g.num) ∧ W.cell? ⟨q2, 1, none⟩ = some (.slice kb g.ks.length kd) ∧ W.cell? ⟨q2, 2, none⟩ = some (.slice vb g.vs.length vd)) W) := hid fun W hW => ⟨(BA.out.kept hW).cell 0 _ rfl, (BA.out.kept hW).cell 1 _ rfl, (BA.out.kept hW).cell 2 _ rfl, (BB.out.kept hW).cell 0 _ rfl, (BB.out.kept hW).cell 1 _ rfl, (BB.out.kept hW).cell 2 _ rfl⟩
  go_region_held3 (fun W => W.cell? ⟨q1, 0, none⟩ = some (.int .i64 f.num) ∧ W.cell? ⟨q1, 1, none⟩ = some (.slice ka f.ks.length kc) ∧ W.cell? ⟨q1, 2, none⟩ = some (.slice va f.vs.length vc) ∧ W.cell? ⟨q2, 0, none⟩ = some (.int .i64 g.num) ∧ W.cell? ⟨q2, 1, none⟩ = some (.slice kb g.ks.length kd) ∧ W.cell? ⟨q2, 2, none⟩ = some (.slice vb g.vs.length vd)) (exact HSF.out _ (by have := HW.out; exact blBy)) (first | (go_at_call_of 107 (Value.slice va f.vs.length vc); refine (HP1.out _ (bl_then HB0.out (by have := HW.out; exact blBy))).mono ?_; rintro e w1 ⟨pa, pc, rfl, hp1, hbx⟩; have HPA : Hid (PrsR w1 (fun b => (Z b ∧ b < w.heap.size) ∨ q < b) d (.slice pa f.ks.length pc) (prs f)) := hid (PrsR.go hp1 (Keep.refl (fun _ => True) _) (fun _ _ => trivial) (fun b hz => hz.elim Or.inl (fun h => Or.inr (by have h3 := HW.out.size; have h4 := HS0.out; have h5 := HQ.out; first | omega | (have h6 : _ ≤ b := h; simp at h6; omega))))); clear hp1; replace HW := hid (bl_then HW.out (below_trans (by exact blBy) hbx)); clear hbx) | (go_at_call_of 107 (Value.slice vb g.vs.length vd); refine (HP2.out _ (bl_then HB0.out (by have := HW.out; exact blBy))).mono ?_; rintro e w2 ⟨pb, pd, rfl, hp1, hbx⟩; replace HPA := hid (PrsR.go HPA.out (keepT (below_trans (by exact blBy) hbx)) (fun _ _ => trivial) (fun _ h => h)); have HPB : Hid (PrsR w2 (fun b => (Z b ∧ b < w.heap.size) ∨ q < b) d (.slice pb g.ks.length pd) (prs g)) := hid (PrsR.go hp1 (Keep.refl (fun _ => True) _) (fun _ _ => trivial) (fun b hz => hz.elim Or.inl (fun h => Or.inr (by have h3 := HW.out.size; have h4 := HS0.out; have h5 := HQ.out; first | omega | (have h6 : _ ≤ b := h; simp at h6; omega))))); clear hp1; replace HW := hid (bl_then HW.out (below_trans (by exact blBy) hbx)); clear hbx) | (go_at_call 106; refine (unionK _ (fun b => (Z b ∧ b < w.heap.size) ∨ q < b) o f g pa pc pb pd w.heap.size (HPA.out) (HPB.out) HL1.out HL2.out HN.out (BF.out.kept HW.out)).mono ?_; rintro e w3 ⟨ua, uc, rfl, hu, hbx⟩; have HU : Hid (PrsR w3 (fun b => (Z b ∧ b < w.heap.size) ∨ q < b) d (.slice ua (uni (kOrd o.key) (fun _ q => q) (prs f) (prs g)).length uc) (uni (kOrd o.key) (fun _ q => q) (prs f) (prs g))) := hid (PrsR.go hu (Keep.refl (fun _ => True) _) (fun _ _ => trivial) (fun b hz => hz.elim id (fun h => Or.inr (by have h3 := HW.out.size; have h4 := HS0.out; have h5 := HQ.out; first | omega | (have h6 : _ ≤ b := h; simp at h6; omega))))); clear hu; replace HW := hid (bl_then HW.out (below_trans (by exact blBy) hbx)); clear hbx))
  generalize hU : uni (kOrd o.key) (fun _ q => q) (prs f) (prs g) = U at *
  have HEU := hid hU
  clear hU
  obtain ⟨_, _, -, lU⟩ := RowM.sl HU.out
  have mU : (U.length : Int) ≤ 9223372036854775807 := by omega
  have BQ3 : Hid (Blk w3 q 33 #[.int .i64 o.num, .slice none 0 0, .slice none 0 0]) := hid (BQ.out.kept HW.out)
  have BR3 : Hid (Blk w3 q3 33 #[.int .i64 0, .slice none 0 0, .slice none 0 0]) := hid (BR.out.kept HW.out)
  have HB3 : Hid (Below w.heap.size w w3) := hid (bl_then HB0.out HW.out)
  have HqN : q < w3.heap.size := BQ3.out.lt
  obtain ⟨Y, hYd⟩ : ∃ Y : Nat → Prop, Y = fun b => ((Z b ∧ b < w.heap.size) ∨ q < b) ∧ b < w3.heap.size := ⟨_, rfl⟩
  have HYN : Hid (∀ b, Y b → b < w3.heap.size) := hid (by rw [hYd]; exact fun b h => h.2)
  have HYQ : Hid (∀ b, Y b → b ≠ q) := hid (by have h5 := HQ.out; rw [hYd]; rintro b ⟨h | h, -⟩ <;> omega)
  have HYR : Hid (∀ b, Y b → b ≠ q3) := hid (by have h5 := HQ.out; rw [hYd]; rintro b ⟨h | h, -⟩ <;> omega)
  have HYZ : Hid (∀ b, Y b → Z b ∨ w.heap.size ≤ b) := hid (by have h5 := HQ.out; rw [hYd]; rintro b ⟨h | h, -⟩; exact Or.inl h.1; exact Or.inr (by omega))
  have HUY : Hid (PrsR w3 Y d (.slice ua U.length uc) U) := hid (by
    rw [hYd]
    exact RowM.old (by decide) HU.out (fun cs x _ hx => Fam.old (famP d) hx))
  clear hYd HU HSF HP1 HP2 HPA HPB BA BB BF BQ BR HB0 HW HN HL1 HL2 H1 H2 HS0
  go_wp2
  go_loopw [22] (fun s22 wr => ∃ (j : Nat) (oa ob : Option Addr) (oc od : Nat), s22 = .int .i64 (j : Int) ∧ j ≤ U.length ∧ Hid (Blk wr q 33 #[.int .i64 o.num, .slice oa j oc, .slice ob j od]) ∧ Hid (OwnY wr w3.heap.size Y 39 3 (FmV d) (.slice oa j oc) ((U.take j).map Prod.fst)) ∧ Hid (OwnY wr w3.heap.size Y 39 3 (FmV d) (.slice ob j od) ((U.take j).map Prod.snd)) ∧ Hid (∀ b, (Value.slice oa j oc).ownBlock = some b → (Value.slice ob j od).ownBlock ≠ some b) ∧ Hid (Keep (fun b => b < w3.heap.size ∧ b ≠ q) w3 wr)) (fun s22 wr => U.length - numAt wr s22)
  case atStart => exact ⟨0, none, none, 0, 0, rfl, by omega, BQ3, hid (OwnY.nil _ _ _ _ _ _), hid (OwnY.nil _ _ _ _ _ _), hid (fun b e => by simp [Value.ownBlock] at e), hid (Keep.refl _ _)⟩
  case round =>
    obtain ⟨j, oa, ob, oc, od, rfl, hj, BQr, HO1, HO2, HAP, HK⟩ := hrel
    by_cases hlt : j < U.length
    · have k2 : (j : Int) < (U.length : Int) := by omega
      obtain ⟨bb, oo, ba, bc, ma, mc, da, dc, na, nc, rfl, hz, hb, c0, c1, c2, c3, c4, c5, he⟩ := prs_at HUY.out hlt
      have hbb : bb < w3.heap.size ∧ bb ≠ q := ⟨HYN.out _ hz, HYQ.out _ hz⟩
      replace c0 := cellKp c0 HK.out hbb
      replace c1 := cellKp c1 HK.out hbb
      replace c2 := cellKp c2 HK.out hbb
      replace c3 := cellKp c3 HK.out hbb
      replace c4 := cellKp c4 HK.out hbb
      replace c5 := cellKp c5 HK.out hbb
      have HT1 : Hid ((U.take (j + 1)).map Prod.fst = (U.take j).map Prod.fst ++ [U[j].1]) := hid (by rw [List.take_succ_eq_append_getElem hlt, List.map_append]; rfl)
      have HT2 : Hid ((U.take (j + 1)).map Prod.snd = (U.take j).map Prod.snd ++ [U[j].2]) := hid (by rw [List.take_succ_eq_append_getElem hlt, List.map_append]; rfl)
      have HLa : Hid (((U.take j).map Prod.fst).length = j) := hid (by rw [List.length_map, List.length_take]; omega)
      have HLb : Hid (((U.take j).map Prod.snd).length = j) := hid (by rw [List.length_map, List.length_take]; omega)
      have HLj : Hid (j + 1 ≤ 4000000) := hid (by omega)
      have HE := hid he
      clear he hz
      generalize U[j] = x at *
      go_upto_region 6 with fail
      generalize hwx : wr.alloc _ = wX
      have HBx : Hid (Below wr.heap.size wr wX) := hid (hwx ▸ below_alloc _)
      have BP : Hid (Blk wX wr.heap.size 166 #[.int .u64 x.1.n, .slice ba x.1.b.length bc, .slice ma x.1.ms.length mc, .int .u64 x.2.n, .slice da x.2.b.length dc, .slice na x.2.ms.length nc]) := hid (hwx ▸ Blk.new _ _ _)
      clear hwx
      have HPW : Hid (w3.heap.size ≤ wr.heap.size) := hid HK.out.size
      generalize hp : wr.heap.size = p at *
      have BQx := hid (BQr.out.kept (hp ▸ HBx.out))
      have HKx : Hid (Keep (fun b => b < w3.heap.size ∧ b ≠ q) w3 wX) := hid (HK.out.trans (Keep.ofBelow (hp ▸ HBx.out)))
      have HEx := hid (Fam.go (famP d) HE.out HKx.out (fun b hb => ⟨HYN.out b hb, HYQ.out b hb⟩) (fun _ h => h))
      obtain ⟨hx1, hx2⟩ := prs_two HEx.out
      have HT : Hid (Tw wX p w3.heap.size Y d wX.drew (.slice oa j oc) ((U.take j).map Prod.fst) (.slice ob j od) ((U.take j).map Prod.snd)) := hid ⟨(HO1.out.kept (famV d) (hp ▸ HBx.out)).kept (famV d) (below_drew1 _), (HO2.out.kept (famV d) (hp ▸ HBx.out)).kept (famV d) (below_drew1 _), HAP.out, Keep.ofBelow (below_drew1 _), fun b e => by have := (HO1.out.own e).2; omega, fun b e => by have := (HO2.out.own e).2; omega⟩
      have hpx : p < wX.heap.size := BP.out.lt
      have HF1 : Hid (∀ b, (Value.slice oa j oc).ownBlock = some b → b < wX.heap.size) := hid (fun b e => by have := (HO1.out.own e).2; omega)
      have HF2 : Hid (∀ b, (Value.slice ob j od).ownBlock = some b → b < wX.heap.size) := hid (fun b e => by have := (HO2.out.own e).2; omega)
      have hqp : q ≠ p := by have := HPW.out; omega
      have HN3 : Hid (w3.heap.size ≤ wX.heap.size) := hid (by have := HPW.out; omega)
      clear HO1 HO2 HAP HK BQr HE HBx c0 c1 c2 c3 c4 c5 hp
      have HX1 := hid hx1
      have HX2 := hid hx2
      clear hx1 hx2
      have HS0K : Hid (∀ W, Keep (fun b => b = p) wX W → (fun W => ∀ k, W.cell? ⟨p, k, none⟩ = #[.int .u64 x.1.n, .slice ba x.1.b.length bc, .slice ma x.1.ms.length mc, .int .u64 x.2.n, .slice da x.2.b.length dc, .slice na x.2.ms.length nc][k]?) W) := hid fun W hk => (BP.out.keep hk rfl).cellF
      have HSK : Hid (∀ W, Keep (fun b => b < w3.heap.size ∨ b = p) wX W → (fun W => ∀ k, W.cell? ⟨p, k, none⟩ = #[.int .u64 x.1.n, .slice ba x.1.b.length bc, .slice ma x.1.ms.length mc, .int .u64 x.2.n, .slice da x.2.b.length dc, .slice na x.2.ms.length nc][k]?) W ∧ (fun W => ∀ k, W.cell? ⟨q, k, none⟩ = #[.int .i64 o.num, .slice oa j oc, .slice ob j od][k]?) W) := hid fun W hk => ⟨(BP.out.keep hk (Or.inr rfl)).cellF, (BQx.out.keep hk (Or.inl HqN)).cellF⟩
      refine wp_regionL (S := SL (fun W => ∀ k, W.cell? ⟨p, k, none⟩ = #[.int .u64 x.1.n, .slice ba x.1.b.length bc, .slice ma x.1.ms.length mc, .int .u64 x.2.n, .slice da x.2.b.length dc, .slice na x.2.ms.length nc][k]?) (fun W => ∀ k, W.cell? ⟨q, k, none⟩ = #[.int .i64 o.num, .slice oa j oc, .slice ob j od][k]?) 13) (by kernel_rfl) (SL.of (HSK.out _ HT.out.kp).1 (HSK.out _ HT.out.kp).2) (fun hHeld => ?_)
      refine takeL0 0 (v := ?_) rfl (by kernel_rfl) (by kernel_rfl) (by kernel_rfl) (fun _ _ _ h => h) (by kernel_rfl) (Or.inl ⟨by rfl, ?_⟩) hHeld (fun hHeld => ?_)
      rotate_left
      · (intro w hSw; (try obtain ⟨hSw, hSx⟩ := hSw); (try dsimp only at hSw); (try dsimp only at hSx); go_simp; (try with_reducible rfl))
      try simp only [Act.put, List.getElem_toArray, List.getElem_cons_succ, List.getElem_cons_zero, List.setIfInBounds_toArray, List.set_cons_zero, List.set_cons_succ]
      refine takeL1 1 (v := ?_) rfl rfl (by kernel_rfl) (by kernel_rfl) (by kernel_rfl) (by kernel_rfl) (by kernel_rfl) (fun _ _ _ h => h) (by kernel_rfl) (Or.inl ⟨by rfl, ?_⟩) hHeld (fun hHeld => ?_)
      rotate_left
      · (intro w hSw; (try obtain ⟨hSw, hSx⟩ := hSw); (try dsimp only at hSw); (try dsimp only at hSx); go_simp; (try with_reducible rfl))
      try simp only [Act.put, List.getElem_toArray, List.getElem_cons_succ, List.getElem_cons_zero, List.setIfInBounds_toArray, List.set_cons_zero, List.set_cons_succ]
      refine takeL0 2 (v := ?_) rfl (by kernel_rfl) (by kernel_rfl) (by kernel_rfl) (fun _ _ _ h => h) (by kernel_rfl) (Or.inl ⟨by rfl, ?_⟩) hHeld (fun hHeld => ?_)
      rotate_left
      · (intro w hSw; (try obtain ⟨hSw, hSx⟩ := hSw); (try dsimp only at hSw); (try dsimp only at hSx); go_simp; (try with_reducible rfl))
      try simp only [Act.put, List.getElem_toArray, List.getElem_cons_succ, List.getElem_cons_zero, List.setIfInBounds_toArray, List.set_cons_zero, List.set_cons_succ]
      refine takeL0 3 (v := ?_) rfl (by kernel_rfl) (by kernel_rfl) (by kernel_rfl) (fun _ _ _ h => h) (by kernel_rfl) (Or.inl ⟨by rfl, ?_⟩) hHeld (fun hHeld => ?_)
      rotate_left
      · (intro w hSw; (try obtain ⟨hSw, hSx⟩ := hSw); (try dsimp only at hSw); (try dsimp only at hSx); go_simp; (try with_reducible rfl))
      try simp only [Act.put, List.getElem_toArray, List.getElem_cons_succ, List.getElem_cons_zero, List.setIfInBounds_toArray, List.set_cons_zero, List.set_cons_succ]
      refine takeL0 6 (v := ?_) rfl (by kernel_rfl) (by kernel_rfl) (by kernel_rfl) (fun _ _ _ h => h) (by kernel_rfl) (Or.inl ⟨by rfl, ?_⟩) hHeld (fun hHeld => ?_)
      rotate_left
      · (intro w hSw; (try obtain ⟨hSw, hSx⟩ := hSw); (try dsimp only at hSw); (try dsimp only at hSx); go_simp; (try with_reducible rfl))
      try simp only [Act.put, List.getElem_toArray, List.getElem_cons_succ, List.getElem_cons_zero, List.setIfInBounds_toArray, List.set_cons_zero, List.set_cons_succ]
      refine takeL1 7 (v := ?_) rfl rfl (by kernel_rfl) (by kernel_rfl) (by kernel_rfl) (by kernel_rfl) (by kernel_rfl) (fun _ _ _ h => h) (by kernel_rfl) (Or.inl ⟨by rfl, ?_⟩) hHeld (fun hHeld => ?_)
      rotate_left
      · (intro w hSw; (try obtain ⟨hSw, hSx⟩ := hSw); (try dsimp only at hSw); (try dsimp only at hSx); go_simp; (try with_reducible rfl))
      try simp only [Act.put, List.getElem_toArray, List.getElem_cons_succ, List.getElem_cons_zero, List.setIfInBounds_toArray, List.set_cons_zero, List.set_cons_succ]
      refine takeL0 8 (v := ?_) rfl (by kernel_rfl) (by kernel_rfl) (by kernel_rfl) (fun _ _ _ h => h) (by kernel_rfl) (Or.inl ⟨by rfl, ?_⟩) hHeld (fun hHeld => ?_)
      rotate_left
      · (intro w hSw; (try obtain ⟨hSw, hSx⟩ := hSw); (try dsimp only at hSw); (try dsimp only at hSx); go_simp; (try with_reducible rfl))
      try simp only [Act.put, List.getElem_toArray, List.getElem_cons_succ, List.getElem_cons_zero, List.setIfInBounds_toArray, List.set_cons_zero, List.set_cons_succ]
      refine takeL0 9 (v := ?_) rfl (by kernel_rfl) (by kernel_rfl) (by kernel_rfl) (fun _ _ _ h => h) (by kernel_rfl) (Or.inl ⟨by rfl, ?_⟩) hHeld (fun hHeld => ?_)
      rotate_left
      · (intro w hSw; (try obtain ⟨hSw, hSx⟩ := hSw); (try dsimp only at hSw); (try dsimp only at hSx); go_simp; (try with_reducible rfl))
      try simp only [Act.put, List.getElem_toArray, List.getElem_cons_succ, List.getElem_cons_zero, List.setIfInBounds_toArray, List.set_cons_zero, List.set_cons_succ]
      refine wpAnyL_ready (rs := [4, 10]) (by kernel_rfl) (by simp) ?_
      refine AllReadyL.cons rfl (fun K hK => ?_) ?_
      · go_simp
        have T1 := hid (HT.out.kept (below_alloc (w := wX.drew) (.cells #[.int .u64 x.1.n, .slice ba x.1.b.length bc, .slice ma x.1.ms.length mc] 39)))
        have B1 : Hid (Blk ((wX.drew).alloc (.cells #[.int .u64 x.1.n, .slice ba x.1.b.length bc, .slice ma x.1.ms.length mc] 39)) (wX.heap.size) 39 #[.int .u64 x.1.n, .slice ba x.1.b.length bc, .slice ma x.1.ms.length mc]) := hid (Blk.newAt (by simp))
        refine hK.out _ _ ?_ (fun hHeld => ?_)
        · exact SL.of (HSK.out _ T1.out.kp).1 (HSK.out _ T1.out.kp).2
        clear hK K
        try simp only [Act.put, List.getElem_toArray, List.getElem_cons_succ, List.getElem_cons_zero, List.setIfInBounds_toArray, List.set_cons_zero, List.set_cons_succ]
        refine wpAnyL_ready (rs := [5, 10]) (by kernel_rfl) (by simp) ?_
        refine AllReadyL.cons rfl (fun K hK => ?_) ?_
        · obtain ⟨la, lc, y1, HR1, TA, HBK, HZ1⟩ := Tw.push T1.out HX1.out B1.out HN3.out hpx HYN.out HF1.out (by rw [HLa.out]; exact HLj.out)
          rw [HLa.out] at HR1 TA
          refine step_append_ran rfl _ _ 31 31 rfl rfl _ _ (.slice la (j + 1) lc) y1 rfl rfl HR1.out ?_
          refine hK.out _ _ ?_ (fun hHeld => ?_)
          · exact SL.of (HSK.out _ TA.out.kp).1 (HSK.out _ TA.out.kp).2
          clear hK K
          try simp only [Act.put, List.getElem_toArray, List.getElem_cons_succ, List.getElem_cons_zero, List.setIfInBounds_toArray, List.set_cons_zero, List.set_cons_succ]
          refine takeL0 12 (v := ?_) rfl (by kernel_rfl) (by kernel_rfl) (by kernel_rfl) (fun _ _ _ h => h) (by kernel_rfl) (Or.inl ⟨by rfl, ?_⟩) hHeld (fun hHeld => ?_)
          rotate_left
          · (intro w hSw; (try obtain ⟨hSw, hSx⟩ := hSw); (try dsimp only at hSw); (try dsimp only at hSx); go_simp; (try with_reducible rfl))
          try simp only [Act.put, List.getElem_toArray, List.getElem_cons_succ, List.getElem_cons_zero, List.setIfInBounds_toArray, List.set_cons_zero, List.set_cons_succ]
          refine wpAnyL_ready (rs := [10]) (by kernel_rfl) (by simp) ?_
          refine AllReadyL.cons rfl (fun K hK => ?_) ?_
          · go_simp
            have T2 := hid (TA.out.kept (below_alloc (w := y1) (.cells #[.int .u64 x.2.n, .slice da x.2.b.length dc, .slice na x.2.ms.length nc] 39)))
            have B2 : Hid (Blk ((y1).alloc (.cells #[.int .u64 x.2.n, .slice da x.2.b.length dc, .slice na x.2.ms.length nc] 39)) (y1.heap.size) 39 #[.int .u64 x.2.n, .slice da x.2.b.length dc, .slice na x.2.ms.length nc]) := hid (Blk.newAt (by simp))
            refine hK.out _ _ ?_ (fun hHeld => ?_)
            · exact SL.of (HSK.out _ T2.out.kp).1 (HSK.out _ T2.out.kp).2
            clear hK K
            try simp only [Act.put, List.getElem_toArray, List.getElem_cons_succ, List.getElem_cons_zero, List.setIfInBounds_toArray, List.set_cons_zero, List.set_cons_succ]
            refine wpAnyL_ready (rs := [11]) (by kernel_rfl) (by simp) ?_
            refine AllReadyL.cons rfl (fun K hK => ?_) ?_
            · obtain ⟨lb, ld, y2, HR2, TB, -, HZ2⟩ := Tw.push T2.out.swap HX2.out B2.out HN3.out hpx HYN.out HF2.out (by rw [HLb.out]; exact HLj.out)
              rw [HLb.out] at HR2 TB
              replace TB := hid TB.out.swap
              refine step_append_ran rfl _ _ 31 31 rfl rfl _ _ (.slice lb (j + 1) ld) y2 rfl rfl HR2.out ?_
              refine hK.out _ _ ?_ (fun hHeld => ?_)
              · exact SL.of (HSK.out _ TB.out.kp).1 (HSK.out _ TB.out.kp).2
              clear hK K
              try simp only [Act.put, List.getElem_toArray, List.getElem_cons_succ, List.getElem_cons_zero, List.setIfInBounds_toArray, List.set_cons_zero, List.set_cons_succ]
              have BQ2 := hid (BQx.out.keep TB.out.kp (Or.inl HqN))
              have xq := BQ2.out.cellF
              have yq := BQ2.out.frz
              have zq := BQ2.out.lt
              refine wpAnyL_ready (rs := [13]) (by kernel_rfl) (by simp) ?_
              refine AllReadyL.cons rfl (fun K hK => ?_) ?_
              · go_simp
                have BQ4 := hid (BQ2.out.set 1 (.slice la (j + 1) lc))
                have HK4 : Hid (Keep (fun b => b = p) wX (y2.setCell ⟨q, 1, none⟩ (.slice la (j + 1) lc))) := hid ((TB.out.kp.weak (fun b hb => Or.inr hb)).trans (Keep.setCell _ _ _ (by simpa using hqp)))
                refine hK.out _ _ ?_ (fun hHeld => ?_)
                · exact SL.late (HS0K.out _ HK4.out) (by kernel_rfl)
                clear hK K
                try simp only [Act.put, List.getElem_toArray, List.getElem_cons_succ, List.getElem_cons_zero, List.setIfInBounds_toArray, List.set_cons_zero, List.set_cons_succ]
                clear xq yq zq
                refine takeL0 14 (v := ?_) rfl (by kernel_rfl) (by kernel_rfl) (by kernel_rfl) (fun _ _ _ h => h) (by kernel_rfl) (Or.inl ⟨by rfl, ?_⟩) hHeld (fun hHeld => ?_)
                rotate_left
                · (intro w hSw; (try obtain ⟨hSw, hSx⟩ := hSw); (try dsimp only at hSw); (try dsimp only at hSx); go_simp; (try with_reducible rfl))
                try simp only [Act.put, List.getElem_toArray, List.getElem_cons_succ, List.getElem_cons_zero, List.setIfInBounds_toArray, List.set_cons_zero, List.set_cons_succ]
                have xq := BQ4.out.cellF
                have yq := BQ4.out.frz
                have zq := BQ4.out.lt
                refine wpAnyL_ready (rs := [15]) (by kernel_rfl) (by simp) ?_
                refine AllReadyL.cons rfl (fun K hK => ?_) ?_
                · go_simp
                  refine hK.out _ _ ?_ (fun hHeld => ?_)
                  · exact SL.late (HS0K.out _ (HK4.out.trans (Keep.setCell _ _ _ (by simpa using hqp)))) (by kernel_rfl)
                  clear hK K
                  try simp only [Act.put, List.getElem_toArray, List.getElem_cons_succ, List.getElem_cons_zero, List.setIfInBounds_toArray, List.set_cons_zero, List.set_cons_succ]
                  refine wpAnyL_done (by kernel_rfl) ?_ _
                  have BQ5 := hid (BQ4.out.set 2 (.slice lb (j + 1) ld))
                  have HKQ : Hid (Keep (fun b => b ≠ q) y2 ((y2.setCell ⟨q, 1, none⟩ (.slice la (j + 1) lc)).setCell ⟨q, 2, none⟩ (.slice lb (j + 1) ld))) := hid ((Keep.setCell _ _ _ (by simp)).trans (Keep.setCell _ _ _ (by simp)))
                  clear xq yq zq hHeld
                  go_wp2
                  exact ⟨⟨j + 1, la, lb, lc, ld, by simp, by omega, hid (BQ5.out.is (by simp)), hid (by rw [HT1.out]; exact TB.out.o1.keep (famV d) HKQ.out HYQ.out (fun b e => by have := (TB.out.o1.own e).1; omega)), hid (by rw [HT2.out]; exact TB.out.o2.keep (famV d) HKQ.out HYQ.out (fun b e => by have := (TB.out.o2.own e).1; omega)), hid TB.out.ap, hid ((HKx.out.trans (TB.out.kp.weak (fun b hb => Or.inl hb.1))).trans (HKQ.out.weak (fun b hb => hb.2)))⟩, by simp [numAt]; omega⟩
                exact AllReadyL.nil
              exact AllReadyL.nil
            exact AllReadyL.nil
          exact AllReadyL.nil
        refine AllReadyL.cons rfl (fun K hK => ?_) ?_
        · go_simp
          have T2 := hid (T1.out.kept (below_alloc (w := (wX.drew.alloc (.cells #[.int .u64 x.1.n, .slice ba x.1.b.length bc, .slice ma x.1.ms.length mc] 39))) (.cells #[.int .u64 x.2.n, .slice da x.2.b.length dc, .slice na x.2.ms.length nc] 39)))
          have B2 : Hid (Blk (((wX.drew.alloc (.cells #[.int .u64 x.1.n, .slice ba x.1.b.length bc, .slice ma x.1.ms.length mc] 39))).alloc (.cells #[.int .u64 x.2.n, .slice da x.2.b.length dc, .slice na x.2.ms.length nc] 39)) (wX.heap.size + 1) 39 #[.int .u64 x.2.n, .slice da x.2.b.length dc, .slice na x.2.ms.length nc]) := hid (Blk.newAt (by simp))
          have B1x := hid (B1.out.kept (below_alloc (w := (wX.drew.alloc (.cells #[.int .u64 x.1.n, .slice ba x.1.b.length bc, .slice ma x.1.ms.length mc] 39))) (.cells #[.int .u64 x.2.n, .slice da x.2.b.length dc, .slice na x.2.ms.length nc] 39)))
          refine hK.out _ _ ?_ (fun hHeld => ?_)
          · exact SL.of (HSK.out _ T2.out.kp).1 (HSK.out _ T2.out.kp).2
          clear hK K
          try simp only [Act.put, List.getElem_toArray, List.getElem_cons_succ, List.getElem_cons_zero, List.setIfInBounds_toArray, List.set_cons_zero, List.set_cons_succ]
          refine wpAnyL_ready (rs := [5]) (by kernel_rfl) (by simp) ?_
          refine AllReadyL.cons rfl (fun K hK => ?_) ?_
          · obtain ⟨la, lc, y1, HR1, TA, HBK, HZ1⟩ := Tw.push T2.out HX1.out B1x.out HN3.out hpx HYN.out HF1.out (by rw [HLa.out]; exact HLj.out)
            rw [HLa.out] at HR1 TA
            have B2y := hid (HBK.out _ _ (by have := HT.out.kp.size; first | exact Nat.le_refl _ | (simp; done) | (simp; omega) | omega) B2.out)
            refine step_append_ran rfl _ _ 31 31 rfl rfl _ _ (.slice la (j + 1) lc) y1 rfl rfl HR1.out ?_
            refine hK.out _ _ ?_ (fun hHeld => ?_)
            · exact SL.of (HSK.out _ TA.out.kp).1 (HSK.out _ TA.out.kp).2
            clear hK K
            try simp only [Act.put, List.getElem_toArray, List.getElem_cons_succ, List.getElem_cons_zero, List.setIfInBounds_toArray, List.set_cons_zero, List.set_cons_succ]
            refine takeL0 12 (v := ?_) rfl (by kernel_rfl) (by kernel_rfl) (by kernel_rfl) (fun _ _ _ h => h) (by kernel_rfl) (Or.inl ⟨by rfl, ?_⟩) hHeld (fun hHeld => ?_)
            rotate_left
            · (intro w hSw; (try obtain ⟨hSw, hSx⟩ := hSw); (try dsimp only at hSw); (try dsimp only at hSx); go_simp; (try with_reducible rfl))
            try simp only [Act.put, List.getElem_toArray, List.getElem_cons_succ, List.getElem_cons_zero, List.setIfInBounds_toArray, List.set_cons_zero, List.set_cons_succ]
            refine wpAnyL_ready (rs := [11]) (by kernel_rfl) (by simp) ?_
            refine AllReadyL.cons rfl (fun K hK => ?_) ?_
            · obtain ⟨lb, ld, y2, HR2, TB, -, HZ2⟩ := Tw.push TA.out.swap HX2.out B2y.out HN3.out hpx HYN.out HF2.out (by rw [HLb.out]; exact HLj.out)
              rw [HLb.out] at HR2 TB
              replace TB := hid TB.out.swap
              refine step_append_ran rfl _ _ 31 31 rfl rfl _ _ (.slice lb (j + 1) ld) y2 rfl rfl HR2.out ?_
              refine hK.out _ _ ?_ (fun hHeld => ?_)
              · exact SL.of (HSK.out _ TB.out.kp).1 (HSK.out _ TB.out.kp).2
              clear hK K
              try simp only [Act.put, List.getElem_toArray, List.getElem_cons_succ, List.getElem_cons_zero, List.setIfInBounds_toArray, List.set_cons_zero, List.set_cons_succ]
              have BQ2 := hid (BQx.out.keep TB.out.kp (Or.inl HqN))
              have xq := BQ2.out.cellF
              have yq := BQ2.out.frz
              have zq := BQ2.out.lt
              refine wpAnyL_ready (rs := [13]) (by kernel_rfl) (by simp) ?_
              refine AllReadyL.cons rfl (fun K hK => ?_) ?_
              · go_simp
                have BQ4 := hid (BQ2.out.set 1 (.slice la (j + 1) lc))
                have HK4 : Hid (Keep (fun b => b = p) wX (y2.setCell ⟨q, 1, none⟩ (.slice la (j + 1) lc))) := hid ((TB.out.kp.weak (fun b hb => Or.inr hb)).trans (Keep.setCell _ _ _ (by simpa using hqp)))
                refine hK.out _ _ ?_ (fun hHeld => ?_)
                · exact SL.late (HS0K.out _ HK4.out) (by kernel_rfl)
                clear hK K
                try simp only [Act.put, List.getElem_toArray, List.getElem_cons_succ, List.getElem_cons_zero, List.setIfInBounds_toArray, List.set_cons_zero, List.set_cons_succ]
                clear xq yq zq
                refine takeL0 14 (v := ?_) rfl (by kernel_rfl) (by kernel_rfl) (by kernel_rfl) (fun _ _ _ h => h) (by kernel_rfl) (Or.inl ⟨by rfl, ?_⟩) hHeld (fun hHeld => ?_)
                rotate_left
                · (intro w hSw; (try obtain ⟨hSw, hSx⟩ := hSw); (try dsimp only at hSw); (try dsimp only at hSx); go_simp; (try with_reducible rfl))
                try simp only [Act.put, List.getElem_toArray, List.getElem_cons_succ, List.getElem_cons_zero, List.setIfInBounds_toArray, List.set_cons_zero, List.set_cons_succ]
                have xq := BQ4.out.cellF
                have yq := BQ4.out.frz
                have zq := BQ4.out.lt
                refine wpAnyL_ready (rs := [15]) (by kernel_rfl) (by simp) ?_
                refine AllReadyL.cons rfl (fun K hK => ?_) ?_
                · go_simp
                  refine hK.out _ _ ?_ (fun hHeld => ?_)
                  · exact SL.late (HS0K.out _ (HK4.out.trans (Keep.setCell _ _ _ (by simpa using hqp)))) (by kernel_rfl)
                  clear hK K
                  try simp only [Act.put, List.getElem_toArray, List.getElem_cons_succ, List.getElem_cons_zero, List.setIfInBounds_toArray, List.set_cons_zero, List.set_cons_succ]
                  refine wpAnyL_done (by kernel_rfl) ?_ _
                  have BQ5 := hid (BQ4.out.set 2 (.slice lb (j + 1) ld))
                  have HKQ : Hid (Keep (fun b => b ≠ q) y2 ((y2.setCell ⟨q, 1, none⟩ (.slice la (j + 1) lc)).setCell ⟨q, 2, none⟩ (.slice lb (j + 1) ld))) := hid ((Keep.setCell _ _ _ (by simp)).trans (Keep.setCell _ _ _ (by simp)))
                  clear xq yq zq hHeld
                  go_wp2
                  exact ⟨⟨j + 1, la, lb, lc, ld, by simp, by omega, hid (BQ5.out.is (by simp)), hid (by rw [HT1.out]; exact TB.out.o1.keep (famV d) HKQ.out HYQ.out (fun b e => by have := (TB.out.o1.own e).1; omega)), hid (by rw [HT2.out]; exact TB.out.o2.keep (famV d) HKQ.out HYQ.out (fun b e => by have := (TB.out.o2.own e).1; omega)), hid TB.out.ap, hid ((HKx.out.trans (TB.out.kp.weak (fun b hb => Or.inl hb.1))).trans (HKQ.out.weak (fun b hb => hb.2)))⟩, by simp [numAt]; omega⟩
                exact AllReadyL.nil
              exact AllReadyL.nil
            exact AllReadyL.nil
          exact AllReadyL.nil
        exact AllReadyL.nil
      refine AllReadyL.cons rfl (fun K hK => ?_) ?_
      · go_simp
        have T1 := hid (HT.out.kept (below_alloc (w := wX.drew) (.cells #[.int .u64 x.2.n, .slice da x.2.b.length dc, .slice na x.2.ms.length nc] 39)))
        have B2 : Hid (Blk ((wX.drew).alloc (.cells #[.int .u64 x.2.n, .slice da x.2.b.length dc, .slice na x.2.ms.length nc] 39)) (wX.heap.size) 39 #[.int .u64 x.2.n, .slice da x.2.b.length dc, .slice na x.2.ms.length nc]) := hid (Blk.newAt (by simp))
        refine hK.out _ _ ?_ (fun hHeld => ?_)
        · exact SL.of (HSK.out _ T1.out.kp).1 (HSK.out _ T1.out.kp).2
        clear hK K
        try simp only [Act.put, List.getElem_toArray, List.getElem_cons_succ, List.getElem_cons_zero, List.setIfInBounds_toArray, List.set_cons_zero, List.set_cons_succ]
        refine wpAnyL_ready (rs := [4]) (by kernel_rfl) (by simp) ?_
        refine AllReadyL.cons rfl (fun K hK => ?_) ?_
        · go_simp
          have T2 := hid (T1.out.kept (below_alloc (w := (wX.drew.alloc (.cells #[.int .u64 x.2.n, .slice da x.2.b.length dc, .slice na x.2.ms.length nc] 39))) (.cells #[.int .u64 x.1.n, .slice ba x.1.b.length bc, .slice ma x.1.ms.length mc] 39)))
          have B1 : Hid (Blk (((wX.drew.alloc (.cells #[.int .u64 x.2.n, .slice da x.2.b.length dc, .slice na x.2.ms.length nc] 39))).alloc (.cells #[.int .u64 x.1.n, .slice ba x.1.b.length bc, .slice ma x.1.ms.length mc] 39)) (wX.heap.size + 1) 39 #[.int .u64 x.1.n, .slice ba x.1.b.length bc, .slice ma x.1.ms.length mc]) := hid (Blk.newAt (by simp))
          have B2x := hid (B2.out.kept (below_alloc (w := (wX.drew.alloc (.cells #[.int .u64 x.2.n, .slice da x.2.b.length dc, .slice na x.2.ms.length nc] 39))) (.cells #[.int .u64 x.1.n, .slice ba x.1.b.length bc, .slice ma x.1.ms.length mc] 39)))
          refine hK.out _ _ ?_ (fun hHeld => ?_)
          · exact SL.of (HSK.out _ T2.out.kp).1 (HSK.out _ T2.out.kp).2
          clear hK K
          try simp only [Act.put, List.getElem_toArray, List.getElem_cons_succ, List.getElem_cons_zero, List.setIfInBounds_toArray, List.set_cons_zero, List.set_cons_succ]
          refine wpAnyL_ready (rs := [5]) (by kernel_rfl) (by simp) ?_
          refine AllReadyL.cons rfl (fun K hK => ?_) ?_
          · obtain ⟨la, lc, y1, HR1, TA, HBK, HZ1⟩ := Tw.push T2.out HX1.out B1.out HN3.out hpx HYN.out HF1.out (by rw [HLa.out]; exact HLj.out)
            rw [HLa.out] at HR1 TA
            have B2xy := hid (HBK.out _ _ (by have := HT.out.kp.size; first | exact Nat.le_refl _ | (simp; done) | (simp; omega) | omega) B2x.out)
            refine step_append_ran rfl _ _ 31 31 rfl rfl _ _ (.slice la (j + 1) lc) y1 rfl rfl HR1.out ?_
            refine hK.out _ _ ?_ (fun hHeld => ?_)
            · exact SL.of (HSK.out _ TA.out.kp).1 (HSK.out _ TA.out.kp).2
            clear hK K
            try simp only [Act.put, List.getElem_toArray, List.getElem_cons_succ, List.getElem_cons_zero, List.setIfInBounds_toArray, List.set_cons_zero, List.set_cons_succ]
            refine takeL0 12 (v := ?_) rfl (by kernel_rfl) (by kernel_rfl) (by kernel_rfl) (fun _ _ _ h => h) (by kernel_rfl) (Or.inl ⟨by rfl, ?_⟩) hHeld (fun hHeld => ?_)
            rotate_left
            · (intro w hSw; (try obtain ⟨hSw, hSx⟩ := hSw); (try dsimp only at hSw); (try dsimp only at hSx); go_simp; (try with_reducible rfl))
            try simp only [Act.put, List.getElem_toArray, List.getElem_cons_succ, List.getElem_cons_zero, List.setIfInBounds_toArray, List.set_cons_zero, List.set_cons_succ]
            refine wpAnyL_ready (rs := [11]) (by kernel_rfl) (by simp) ?_
            refine AllReadyL.cons rfl (fun K hK => ?_) ?_
            · obtain ⟨lb, ld, y2, HR2, TB, -, HZ2⟩ := Tw.push TA.out.swap HX2.out B2xy.out HN3.out hpx HYN.out HF2.out (by rw [HLb.out]; exact HLj.out)
              rw [HLb.out] at HR2 TB
              replace TB := hid TB.out.swap
              refine step_append_ran rfl _ _ 31 31 rfl rfl _ _ (.slice lb (j + 1) ld) y2 rfl rfl HR2.out ?_
              refine hK.out _ _ ?_ (fun hHeld => ?_)
              · exact SL.of (HSK.out _ TB.out.kp).1 (HSK.out _ TB.out.kp).2
              clear hK K
              try simp only [Act.put, List.getElem_toArray, List.getElem_cons_succ, List.getElem_cons_zero, List.setIfInBounds_toArray, List.set_cons_zero, List.set_cons_succ]
              have BQ2 := hid (BQx.out.keep TB.out.kp (Or.inl HqN))
              have xq := BQ2.out.cellF
              have yq := BQ2.out.frz
              have zq := BQ2.out.lt
              refine wpAnyL_ready (rs := [13]) (by kernel_rfl) (by simp) ?_
              refine AllReadyL.cons rfl (fun K hK => ?_) ?_
              · go_simp
                have BQ4 := hid (BQ2.out.set 1 (.slice la (j + 1) lc))
                have HK4 : Hid (Keep (fun b => b = p) wX (y2.setCell ⟨q, 1, none⟩ (.slice la (j + 1) lc))) := hid ((TB.out.kp.weak (fun b hb => Or.inr hb)).trans (Keep.setCell _ _ _ (by simpa using hqp)))
                refine hK.out _ _ ?_ (fun hHeld => ?_)
                · exact SL.late (HS0K.out _ HK4.out) (by kernel_rfl)
                clear hK K
                try simp only [Act.put, List.getElem_toArray, List.getElem_cons_succ, List.getElem_cons_zero, List.setIfInBounds_toArray, List.set_cons_zero, List.set_cons_succ]
                clear xq yq zq
                refine takeL0 14 (v := ?_) rfl (by kernel_rfl) (by kernel_rfl) (by kernel_rfl) (fun _ _ _ h => h) (by kernel_rfl) (Or.inl ⟨by rfl, ?_⟩) hHeld (fun hHeld => ?_)
                rotate_left
                · (intro w hSw; (try obtain ⟨hSw, hSx⟩ := hSw); (try dsimp only at hSw); (try dsimp only at hSx); go_simp; (try with_reducible rfl))
                try simp only [Act.put, List.getElem_toArray, List.getElem_cons_succ, List.getElem_cons_zero, List.setIfInBounds_toArray, List.set_cons_zero, List.set_cons_succ]
                have xq := BQ4.out.cellF
                have yq := BQ4.out.frz
                have zq := BQ4.out.lt
                refine wpAnyL_ready (rs := [15]) (by kernel_rfl) (by simp) ?_
                refine AllReadyL.cons rfl (fun K hK => ?_) ?_
                · go_simp
                  refine hK.out _ _ ?_ (fun hHeld => ?_)
                  · exact SL.late (HS0K.out _ (HK4.out.trans (Keep.setCell _ _ _ (by simpa using hqp)))) (by kernel_rfl)
                  clear hK K
                  try simp only [Act.put, List.getElem_toArray, List.getElem_cons_succ, List.getElem_cons_zero, List.setIfInBounds_toArray, List.set_cons_zero, List.set_cons_succ]
                  refine wpAnyL_done (by kernel_rfl) ?_ _
                  have BQ5 := hid (BQ4.out.set 2 (.slice lb (j + 1) ld))
                  have HKQ : Hid (Keep (fun b => b ≠ q) y2 ((y2.setCell ⟨q, 1, none⟩ (.slice la (j + 1) lc)).setCell ⟨q, 2, none⟩ (.slice lb (j + 1) ld))) := hid ((Keep.setCell _ _ _ (by simp)).trans (Keep.setCell _ _ _ (by simp)))
                  clear xq yq zq hHeld
                  go_wp2
                  exact ⟨⟨j + 1, la, lb, lc, ld, by simp, by omega, hid (BQ5.out.is (by simp)), hid (by rw [HT1.out]; exact TB.out.o1.keep (famV d) HKQ.out HYQ.out (fun b e => by have := (TB.out.o1.own e).1; omega)), hid (by rw [HT2.out]; exact TB.out.o2.keep (famV d) HKQ.out HYQ.out (fun b e => by have := (TB.out.o2.own e).1; omega)), hid TB.out.ap, hid ((HKx.out.trans (TB.out.kp.weak (fun b hb => Or.inl hb.1))).trans (HKQ.out.weak (fun b hb => hb.2)))⟩, by simp [numAt]; omega⟩
                exact AllReadyL.nil
              exact AllReadyL.nil
            exact AllReadyL.nil
          exact AllReadyL.nil
        exact AllReadyL.nil
      exact AllReadyL.nil
    · have k2 : ¬ (j : Int) < (U.length : Int) := by omega
      obtain rfl : j = U.length := by omega
      have e1 : U.take U.length = U := List.take_length
      rw [e1] at HO1 HO2
      have HR1 := hid (HO1.out.row (famV d) (by rw [List.length_map]; omega))
      have HR2 := hid (HO2.out.row (famV d) (by rw [List.length_map]; omega))
      have BRr := hid (BR3.out.keep HK.out (by have := HQ.out; constructor <;> omega))
      have xq := BQr.out.cellF
      have zq := BQr.out.lt
      have xr := BRr.out.cellF
      have yr := BRr.out.frz
      have zr := BRr.out.lt
      have hq3 : w.heap.size ≤ q3 := by have := HQ.out; omega
      have hq4 : w.heap.size ≤ q := by have := HQ.out; omega
      have HKR := hid fun (x y z : Value) => show Keep (fun b => b ≠ q3) wr (((wr.setCell ⟨q3, 0, none⟩ x).setCell ⟨q3, 1, none⟩ y).setCell ⟨q3, 2, none⟩ z) from ((Keep.setCell _ _ _ (by simp)).trans (Keep.setCell _ _ _ (by simp))).trans (Keep.setCell _ _ _ (by simp))
      have HFB : Hid (Below w.heap.size w wr) := hid (Below.trans HB3.out (HK.out.below HB3.out.size (fun k hk => ⟨by have := HB3.out.size; omega, by omega⟩)))
      have hN3 : q3 < w3.heap.size := BR3.out.lt
      clear HO1 HO2 HAP hlt hj e1
      go_wp2
      refine bodyPost_ret (v := .agg #[.int .i64 o.num, .slice oa U.length oc, .slice ob U.length od]) (by simp [results, Tryz.results85, go_sem, xr, yr, zr]) rfl ⟨[.int .i64 o.num, .slice oa U.length oc, .slice ob U.length od], rfl, ?_, ?_⟩
      · have eU : mapM o f g = ⟨o.num, U.map Prod.fst, U.map Prod.snd⟩ := by unfold mapM; rw [HEU.out]
        rw [eU]
        exact ⟨_, _, rfl, VlsR.go HR1.out (HKR.out _ _ _) (fun b hb => hb.elim (HYR.out b) (fun h => by omega)) (fun b hb => hb.elim (HYZ.out b) (fun h => Or.inr (by omega))), VlsR.go HR2.out (HKR.out _ _ _) (fun b hb => hb.elim (HYR.out b) (fun h => by omega)) (fun b hb => hb.elim (HYZ.out b) (fun h => Or.inr (by omega))), HO.out⟩
      · exact Below.trans HFB.out ((HKR.out _ _ _).below (Nat.le_trans HFB.out.size (Nat.le_refl _)) (fun k hk => by omega))
/-- What a typed field's shape is. -/
theorem fld_facts {l : List TV} {o : FT} {f : CF CM} (h : fieldB l o f = true) : shapeB o.lab f = true ∧ (∀ v ∈ f.vs, valB l o v = true) ∧ (∀ v ∈ f.ks, scalarB o.key v = true) ∧ keysB o.key f.ks = true := by
  unfold fieldB at h
  simp only [Bool.and_eq_true, List.all_eq_true] at h
  exact h
theorem merg_fs (l : List TV) (d : Nat) (x : TV) (a b : CM) : (mergM l (d + 1) x a b).fs = uni fOrd (bothF l (mergM l d) x) (a.fs.filter (rivB x.t.fs b.fs)) b.fs := rfl
theorem hold_facts {l : List TV} {x : TV} {m : CM} (h : holdB l entB x m = true) : riseM m.fs = true ∧ (∀ f ∈ m.fs, hasF x.t.fs f.num = true ∧ fieldB l (ownF x.t.fs f.num) f = true) ∧ singleB x.t.fs m.fs = true ∧ ∀ e ∈ m.us, entB e = true := by
  unfold holdB typB8 at h
  simp only [Bool.and_eq_true, List.all_eq_true] at h
  exact h
/-- The message in a field through which a path can go on. -/
theorem wM_in {l : List TV} {o : FT} {f : CF CM} (h : fieldB l o f = true) (h1 : o.lab = 1) (h17 : o.kind = 17) : wM f ∈ allM f ∧ f = ⟨f.num, [], [⟨0, [], [wM f]⟩]⟩ := by
  obtain ⟨s1, s2, -, -⟩ := fld_facts h
  unfold shapeB at s1
  rw [h1] at s1
  simp at s1
  obtain ⟨k0, v1⟩ := s1
  obtain ⟨num, ks, vs⟩ := f
  dsimp only at k0 v1 s2
  subst k0
  match vs, v1 with
  | [v], _ =>
    have h3 := s2 v List.mem_cons_self
    unfold valB at h3
    rw [if_pos h17] at h3
    simp only [Bool.and_eq_true, beq_iff_eq] at h3
    obtain ⟨vn, vb, vms⟩ := v
    dsimp only at h3
    obtain ⟨e1, e2, e3⟩ := h3
    have e2' : vb = [] := List.eq_nil_of_length_eq_zero (by omega)
    subst e1 e2'
    match vms, (show vms.length = 1 by omega) with
    | [z], _ => exact ⟨by simp [wM, allM], rfl⟩
theorem blw_num (l : List TV) (x : TV) {f g : CF CM} (h : f.num = g.num) : blwB l x f = blwB l x g := by unfold blwB; rw [h]
theorem blw_in {l : List TV} {x : TV} (hx : x ∈ l) (f : CF CM) : blwB l x f ∈ l := by
  unfold blwB
  cases h : l[(ownF x.t.fs f.num).ref.toNat]? with
  | none => exact hx
  | some y => exact List.mem_of_getElem? h
theorem both_def (l : List TV) (mg : TV → CM → CM → CM) (x : TV) (p y : CF CM) : bothF l mg x p y = if (ownF x.t.fs p.num).lab = 1 ∧ (ownF x.t.fs p.num).kind = 17 then ⟨(ownF x.t.fs p.num).num, [], [⟨0, [], [mg (blwB l x p) (wM p) (wM y)]⟩]⟩ else if (ownF x.t.fs p.num).lab = 2 ∨ (ownF x.t.fs p.num).lab = 3 then ⟨(ownF x.t.fs p.num).num, [], p.vs ++ y.vs⟩ else if (ownF x.t.fs p.num).lab = 5 then mapM (ownF x.t.fs p.num) p y else y := rfl
/-- No list of a message has more than L, so deep. -/
def sizM (L : Nat) : Nat → CM → Prop
  | 0, _ => True
  | d + 1, m => m.fs.length ≤ L ∧ m.us.length ≤ L ∧ ∀ f ∈ m.fs, f.ks.length ≤ L ∧ f.vs.length ≤ L ∧ ∀ z ∈ allM f, sizM L d z
end Go.Proofs.YtkifjpaoncjokaaGreatDoor
