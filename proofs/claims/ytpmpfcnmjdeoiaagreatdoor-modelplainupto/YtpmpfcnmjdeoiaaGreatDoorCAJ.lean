/-
  Copy: what the program answers: every message in new memory.
  Those of a list that are so; whether all are so; the first one that is so.
  The messages of a field, one by one: the iterator's contract.
-/
import Derived.Test.YtpmpfcnmjdeoiaaGreatDoorCAF
import Derived.Test.YtpmpfcnmjdeoiaaGreatDoorCTY
import Derived.RangeFuncNested
import Derived.RangeFuncBound
import Derived.RangeFuncCalls
import Derived.RangeFuncLeaves
import Derived.Shelf.Abstract
import Derived.Shelf.RegionOpen
import Derived.WalkKit
import Derived.OwnWalkIn
import Derived.TacticsInMore
import Derived.LoopNIn
import Derived.LoopIn
namespace Go.Proofs.YtpmpfcnmjdeoiaaGreatDoor
open Go.RowKit
set_option maxRecDepth 1000000
set_option linter.unusedVariables false
set_option linter.unusedSimpArgs false
set_option maxHeartbeats 2000000
theorem rebuiltT : ∀ d, CpAt d
  | 0 => fun _ _ _ _ h => h.elim
  | d + 1 => fun w Z cs m h => by
    have HC := rebuiltT d
    have h0 := h
    obtain ⟨ka, kc, va, vc, rfl, g, q, -⟩ := msg_open h
    have HT : Hid (∀ (W : World) (p4 p6 p7 : Nat), Below w.heap.size w W → CpB W p4 p6 p7 → Calls Tryz.prog 81 #[.slice ka m.fs.length kc, .func (.func 109) #[] #[.pointer (some ⟨p7, 0, none⟩), .pointer (some ⟨p4, 0, none⟩), .pointer (some ⟨p6, 0, none⟩)]] W (NewL 3 (FmF d) W m.fs)) := hid fun W p4 p6 p7 hW hB => by
      have := turnedF W Z d d m.fs ka kc (g.kept hW) 109 #[.pointer (some ⟨p7, 0, none⟩), .pointer (some ⟨p4, 0, none⟩), .pointer (some ⟨p6, 0, none⟩)] cfF id (fun W' hW' cs x _ hx => newFieldT d HC W' Z cs x hx p4 p6 p7 (hB.kept hW'))
      rw [List.map_id] at this
      exact this
    have HE : Hid (∀ (W : World), Below w.heap.size w W → Calls Tryz.prog 82 #[.slice va m.us.length vc, .func (.func 83) #[] #[]] W (NewL 4 FmE W m.us)) := hid fun W hW => by
      have := turnedE W Z m.us va vc (q.kept hW) 83 #[] cfE id (fun W' hW' cs x _ hx => newEntryT W' Z cs x hx)
      rw [List.map_id] at this
      exact this
    have HW := hid (fun W (hW : Below w.heap.size w W) => wholeT W _ m Z (d + 1) (h0.kept hW))
    clear h h0 g q HC
    go_enter Tryz.func62, Tryz.ntmps62
    go_wp2_with fail
    refine (HW.out _ (by exact blBy)).mono ?_
    rintro e w1 ⟨rfl, hbx⟩
    have B4 : Blk w1 w.heap.size 104 #[] := (((((Blk.new _ _ _).kept (below_alloc _)).kept (below_alloc _)).kept (below_alloc _)).kept (below_alloc _)).kept hbx
    have B5 : Blk w1 (w.heap.size + 1) 35 #[.slice ka m.fs.length kc, .slice va m.us.length vc] := ((((Blk.newAt (by simp)).kept (below_alloc _)).kept (below_alloc _)).kept (below_alloc _)).kept hbx
    have B6 : Blk w1 (w.heap.size + 1 + 1) 105 #[.func (.func 60) #[] #[]] := (((Blk.newAt (by simp)).kept (below_alloc _)).kept (below_alloc _)).kept hbx
    have B7 : Blk w1 (w.heap.size + 1 + 1 + 1) 106 #[.func (.func 61) #[] #[]] := ((Blk.newAt (by simp)).kept (below_alloc _)).kept hbx
    have Br : Blk w1 (w.heap.size + 1 + 1 + 1 + 1) 35 #[.slice none 0 0, .slice none 0 0] := (Blk.newAt (by simp)).kept hbx
    have hbz : Hid (Below w.heap.size w w1) := hid (bl_then (by exact blBy) hbx)
    have hs1 : w.heap.size + 5 ≤ w1.heap.size := by have := hbx.size; simpa using this
    clear hbx HW
    have x5 := B5.cellF
    have y5 := B5.frz
    have z5 := B5.lt
    go_upto_region 3 with fail
    have BB : CpB ((w1.setCell ⟨w.heap.size + 1, 0, none⟩ (.slice ka m.fs.length kc)).setCell ⟨w.heap.size + 1, 1, none⟩ (.slice va m.us.length vc)) w.heap.size (w.heap.size + 1 + 1) (w.heap.size + 1 + 1 + 1) := ⟨(B4.other (by simp) _).other (by simp) _, (B6.other (by simp) _).other (by simp) _, (B7.other (by simp; omega) _).other (by simp; omega) _⟩
    replace B5 := (B5.set 0 (.slice ka m.fs.length kc)).set 1 (.slice va m.us.length vc)
    replace Br := (Br.other (a := ⟨w.heap.size + 1, 0, none⟩) (by simp; omega) (.slice ka m.fs.length kc)).other (a := ⟨w.heap.size + 1, 1, none⟩) (by simp; omega) (.slice va m.us.length vc)
    have HB : Hid (Below w.heap.size w ((w1.setCell ⟨w.heap.size + 1, 0, none⟩ (.slice ka m.fs.length kc)).setCell ⟨w.heap.size + 1, 1, none⟩ (.slice va m.us.length vc))) := hid (by have := hbz.out; exact blBy)
    have HS : Hid (w.heap.size + 5 ≤ ((w1.setCell ⟨w.heap.size + 1, 0, none⟩ (.slice ka m.fs.length kc)).setCell ⟨w.heap.size + 1, 1, none⟩ (.slice va m.us.length vc)).heap.size) := hid (by simpa using hs1)
    clear x5 y5 z5 B4 B6 B7 hs1 hbz
    generalize ((w1.setCell ⟨w.heap.size + 1, 0, none⟩ (.slice ka m.fs.length kc)).setCell ⟨w.heap.size + 1, 1, none⟩ (.slice va m.us.length vc)) = W at *
    have f0 : W.cell? ⟨w.heap.size + 1, 0, none⟩ = some (.slice ka m.fs.length kc) := B5.cell 0 _ (by simp)
    have f1 : W.cell? ⟨w.heap.size + 1, 1, none⟩ = some (.slice va m.us.length vc) := B5.cell 1 _ (by simp)
    have hp1 : w.heap.size + 1 ≠ w.heap.size + 1 + 1 + 1 + 1 := by omega
    have HBB := hid BB
    have xr := Br.cellF
    have yr := Br.frz
    have zr := Br.lt
    clear B5 BB
    go_region_held3 (fun W => W.cell? ⟨w.heap.size + 1, 0, none⟩ = some (.slice ka m.fs.length kc) ∧ W.cell? ⟨w.heap.size + 1, 1, none⟩ = some (.slice va m.us.length vc)) (first | exact ⟨f0, f1⟩ | exact ⟨cs2 f0 hp1, cs2 f1 hp1⟩) (first | (go_at_call 81; refine (HT.out _ _ _ _ (by have := HB.out; exact blBy) (HBB.out.kept (by first | exact Below.refl _ _ | exact below_drew1 _ | exact below_drewN _ _))).mono ?_; rintro e w2 ⟨a1, c1, rfl, hn, hbx⟩; replace f0 := cell_below f0 (below_trans (by first | exact Below.refl _ _ | exact below_drew1 _ | exact below_drewN _ _) hbx); replace f1 := cell_below f1 (below_trans (by first | exact Below.refl _ _ | exact below_drew1 _ | exact below_drewN _ _) hbx); replace Br := Br.kept (below_trans (by first | exact Below.refl _ _ | exact below_drew1 _ | exact below_drewN _ _) hbx); replace xr := Br.cellF; replace yr := Br.frz; replace zr := Br.lt; replace HB := hid (below_trans HB.out (below_trans (by first | exact Below.refl _ _ | exact below_drew1 _ | exact below_drewN _ _) hbx)); replace HBB := hid (HBB.out.kept (below_trans (by first | exact Below.refl _ _ | exact below_drew1 _ | exact below_drewN _ _) hbx)); have H1 : Hid (FlsR w2 (w.heap.size + 5 ≤ ·) d (.slice a1 m.fs.length c1) m.fs) := hid (FlsR.go hn (Keep.refl (fun _ => True) w2) (fun _ _ => trivial) (fun k hk => Nat.le_trans HS.out hk)); (try replace H2 := hid (EnsR.kept H2.out (below_trans (by first | exact Below.refl _ _ | exact below_drew1 _ | exact below_drewN _ _) hbx))); replace HS := hid (Nat.le_trans HS.out (Below.size (below_trans (by first | exact Below.refl _ _ | exact below_drew1 _ | exact below_drewN _ _) hbx))); clear hn hbx) | (go_at_call 82; refine (HE.out _ (by have := HB.out; exact blBy)).mono ?_; rintro e w3 ⟨a2, c2, rfl, hn, hbx⟩; replace f0 := cell_below f0 (below_trans (by first | exact Below.refl _ _ | exact below_drew1 _ | exact below_drewN _ _) hbx); replace f1 := cell_below f1 (below_trans (by first | exact Below.refl _ _ | exact below_drew1 _ | exact below_drewN _ _) hbx); replace Br := Br.kept (below_trans (by first | exact Below.refl _ _ | exact below_drew1 _ | exact below_drewN _ _) hbx); replace xr := Br.cellF; replace yr := Br.frz; replace zr := Br.lt; replace HB := hid (below_trans HB.out (below_trans (by first | exact Below.refl _ _ | exact below_drew1 _ | exact below_drewN _ _) hbx)); replace HBB := hid (HBB.out.kept (below_trans (by first | exact Below.refl _ _ | exact below_drew1 _ | exact below_drewN _ _) hbx)); have H2 : Hid (EnsR w3 (w.heap.size + 5 ≤ ·) (.slice a2 m.us.length c2) m.us) := hid (EnsR.go hn (Keep.refl (fun _ => True) w3) (fun _ _ => trivial) (fun k hk => Nat.le_trans HS.out hk)); (try replace H1 := hid (FlsR.kept H1.out (below_trans (by first | exact Below.refl _ _ | exact below_drew1 _ | exact below_drewN _ _) hbx))); replace HS := hid (Nat.le_trans HS.out (Below.size (below_trans (by first | exact Below.refl _ _ | exact below_drew1 _ | exact below_drewN _ _) hbx))); clear hn hbx))
    all_goals go_wp2
    all_goals exact bodyPost_ret (v := .agg #[.slice a1 m.fs.length c1, .slice a2 m.us.length c2]) (by simp [results, Tryz.results62, go_sem, xr, zr, yr]) rfl (NewE.mk [.slice a1 m.fs.length c1, .slice a2 m.us.length c2] ⟨_, _, rfl, FlsR.go H1.out (f := (w.heap.size + 5 ≤ ·)) (by with_reducible repeat (first | exact Keep.refl _ _ | refine kpS ?_ (by first | (simp; done) | (simp; omega) | omega) | refine kpA ?_ _ | refine kpD ?_ | refine kpN ?_ _)) (fun _ h => h) (fun k hk => by omega), EnsR.go H2.out (f := (w.heap.size + 5 ≤ ·)) (by with_reducible repeat (first | exact Keep.refl _ _ | refine kpS ?_ (by first | (simp; done) | (simp; omega) | omega) | refine kpA ?_ _ | refine kpD ?_ | refine kpN ?_ _)) (fun _ h => h) (fun k hk => by omega)⟩ (by have := HB.out; exact blBy))
theorem copyT (d : Nat) (w : World) (Z : Nat → Prop) (cs : List Value) (m : CM) (h : MsgE w Z d cs m) : Calls Tryz.prog 28 #[.agg cs.toArray] w (NewE (FmM d) w m) := by
  have HR := hid (fun W (hW : Below w.heap.size w W) => rebuiltT d W Z cs m (h.kept hW))
  obtain ⟨ka, kc, va, vc, rfl, -⟩ := msg_openD h
  clear h
  go_enter Tryz.func28, Tryz.ntmps28
  go_wp2_with fail
  refine (HR.out _ (by exact blBy)).mono ?_
  rintro e w1 ⟨ds, rfl, hn, hbx⟩
  have Br : Blk w1 (w.heap.size + 1) 35 #[.slice none 0 0, .slice none 0 0] := (Blk.newAt (by simp)).kept hbx
  have HN : Hid (MsgE w1 (w.heap.size + 2 ≤ ·) d ds m) := hid (MsgE.go (Keep.refl (fun _ => True) w1) (fun _ _ => trivial) (fun k hk => by simpa using hk) d _ _ hn)
  have hbz : Hid (Below w.heap.size w w1) := hid (bl_then (by exact blBy) hbx)
  clear hbx hn HR
  obtain ⟨fa, fc, ua, uc, rfl, -⟩ := msg_openD HN.out
  have xr := Br.cellF
  have yr := Br.frz
  have zr := Br.lt
  go_wp2
  exact bodyPost_ret (v := .agg #[.slice fa m.fs.length fc, .slice ua m.us.length uc]) (by simp [results, Tryz.results28, go_sem, xr, zr, yr]) rfl (NewE.mk [.slice fa m.fs.length fc, .slice ua m.us.length uc] (MsgE.go (f := (w.heap.size + 2 ≤ ·)) (by with_reducible repeat (first | exact Keep.refl _ _ | refine kpS ?_ (by first | (simp; done) | (simp; omega) | omega) | refine kpA ?_ _ | refine kpD ?_ | refine kpN ?_ _)) (fun _ h => h) (fun k hk => by omega) d _ _ HN.out) (by have := hbz.out; exact blBy))
end Go.Proofs.YtpmpfcnmjdeoiaaGreatDoor
namespace Go.Proofs.YtpmpfcnmjdeoiaaGreatDoor
open Go.RowKit
set_option maxRecDepth 1000000
set_option linter.unusedVariables false
set_option linter.unusedSimpArgs false
set_option maxHeartbeats 1000000
/-- Old memory, but for v's own block. -/
def ZofA (w : World) (Y : Nat → Prop) (v : Value) (b : Nat) : Prop := Y b ∧ b < w.heap.size ∧ v.ownBlock ≠ some b
/-- A row of one's own, each struct as E says, in other memory. -/
def OwnA {α : Type} (w : World) (base : Nat) (Y : Nat → Prop) (t : TypeId) (k : Nat) (E : World → (Nat → Prop) → List Value → α → Prop) (v : Value) (xs : List α) : Prop :=
  ∃ ts : List (Tup k), w.ownsRow base t k v xs.length (ts.flatMap Subtype.val) ∧ ts.length = xs.length ∧ ∀ (i : Nat) (t : Tup k) (x : α), ts[i]? = some t → xs[i]? = some x → E w (ZofA w Y v) t.1 x
theorem OwnA.nil {α : Type} (w : World) (base : Nat) (Y : Nat → Prop) (t : TypeId) (k : Nat) (E : World → (Nat → Prop) → List Value → α → Prop) : OwnA w base Y t k E (.slice none 0 0) [] := ⟨[], World.ownsRow_nil _ _ _ _, rfl, fun i t x ht => by simp at ht⟩
theorem OwnA.own {α : Type} {w : World} {base : Nat} {Y : Nat → Prop} {t : TypeId} {k : Nat} {E : World → (Nat → Prop) → List Value → α → Prop} {v : Value} {xs : List α} (h : OwnA w base Y t k E v xs) {b : Nat} (hb : v.ownBlock = some b) : base ≤ b ∧ b < w.heap.size := by
  obtain ⟨ts, h1, _⟩ := h
  have := own_type h1 hb
  exact ⟨this.1, this.2.1⟩
theorem OwnA.kept {α : Type} {w w' : World} {base : Nat} {Y : Nat → Prop} {t : TypeId} {k : Nat} {E : World → (Nat → Prop) → List Value → α → Prop} (F : Fam k E) {v : Value} {xs : List α} (h : OwnA w base Y t k E v xs) (hb : Below w.heap.size w w') : OwnA w' base Y t k E v xs := by
  obtain ⟨ts, h1, h2, h3⟩ := h
  exact ⟨ts, own_kept h1 hb, h2, fun i t x ht hx => F.go (h3 i t x ht hx) (keepT hb) (fun _ _ => trivial) (fun b hz => ⟨hz.1, Nat.lt_of_lt_of_le hz.2.1 hb.size, hz.2.2⟩)⟩
theorem OwnA.row {α : Type} {w : World} {base : Nat} {Y : Nat → Prop} {t : TypeId} {k : Nat} {E : World → (Nat → Prop) → List Value → α → Prop} (F : Fam k E) {v : Value} {xs : List α} (h : OwnA w base Y t k E v xs) (hn : xs.length ≤ 4000000) : RowM w (fun b => Y b ∨ base ≤ b) k (E w (fun b => Y b ∨ base ≤ b)) v xs := by
  obtain ⟨ts, h1, h2, h3⟩ := h
  exact ⟨ts, own_row h1 (fun b hb => Or.inr (own_type h1 hb).1), h2, hn, fun i t x ht hx => F.go (h3 i t x ht hx) (Keep.refl (fun _ => True) w) (fun _ _ => trivial) (fun b hz => Or.inl hz.1)⟩
/-- One struct more. -/
theorem OwnA.push {α : Type} {k : Nat} {E : World → (Nat → Prop) → List Value → α → Prop} (F : Fam k E) (t ts : TypeId) (bytes : Nat) (z : Value) (hts : Tryz.prog.underlying ts = some (.slice t)) (hinfo : (Tryz.prog.info? t).map (fun i => (i.zero, i.size, i.bytes)) = some (some z, k, bytes)) (hzs : z.cells.size = k) (h0 : 0 < k) (hby : bytes ≤ 400)
    {base : Nat} {Y : Nat → Prop} {v : Value} {xs : List α} {w : World} {cs : List Value} {x : α} (h : OwnA w base Y t k E v xs) (hx : E w (ZofA w Y v) cs x) (hb : base ≤ w.heap.size) (hn : xs.length ≤ 4000000) :
    ∃ a c w', Hid ((Builtin.append_ #[ts, ts] ts #[v, .slice (some ⟨w.heap.size, 0, none⟩) 1 1]).run Tryz.prog (w.alloc (.cells cs.toArray t)) = .ok (.slice a (xs.length + 1) c) w') ∧ Hid (OwnA w' base Y t k E (.slice a (xs.length + 1) c) (xs ++ [x])) ∧ Hid (Grow w w' v (.slice a (xs.length + 1) c)) := by
  obtain ⟨us, h1, h2, h3⟩ := h
  obtain ⟨v', w', r1, r2, r3⟩ := append_st t ts k bytes z hts hinfo hzs h0 hby base v xs.length (us.flatMap Subtype.val) w cs.toArray (by simp [F.len hx]) (by simpa using F.one hx) h1 hb hn
  obtain ⟨a, c, rfl⟩ := own_shape r2
  refine ⟨a, c, w', hid r1, hid ⟨us ++ [⟨cs, F.len hx⟩], ?_, by simp [h2], ?_⟩, hid r3⟩
  · rw [List.length_append, List.flatMap_append]
    simpa using r2
  · have hz : ∀ b, ZofA w Y v b → ZofA w' Y (.slice a (xs.length + 1) c) b := fun b hzb => by
      refine ⟨hzb.1, Nat.lt_of_lt_of_le hzb.2.1 r3.size, ?_⟩
      intro e
      rcases r3.own with q | q
      · rw [q] at e; exact hzb.2.2 e
      · have := q b e; have := hzb.2.1; omega
    have hk : Keep (fun b => v.ownBlock ≠ some b) w w' := Keep.ofGrow r3 (fun _ hk => hk)
    intro i u y hu hy
    by_cases hi : i < us.length
    · rw [List.getElem?_append_left hi] at hu
      rw [List.getElem?_append_left (by omega)] at hy
      exact F.go (h3 i u y hu hy) hk (fun b hz => hz.2.2) hz
    · have ei : i = us.length := by
        have := (List.getElem?_eq_some_iff.1 hu).1
        simp at this
        omega
      subst ei
      rw [List.getElem?_append_right (Nat.le_refl _), Nat.sub_self] at hu
      rw [h2, List.getElem?_append_right (Nat.le_refl _), Nat.sub_self] at hy
      simp at hu hy
      subst hu hy
      exact F.go hx hk (fun b hz => hz.2.2) hz
theorem OwnA.bel {α : Type} {w w' : World} {base : Nat} {Y : Nat → Prop} {t : TypeId} {k : Nat} {E : World → (Nat → Prop) → List Value → α → Prop} {v v' : Value} {xs : List α} (h : OwnA w base Y t k E v xs) (g : Grow w w' v v') {B : Nat} (hB : B ≤ base) (hs : B ≤ w.heap.size) : Below B w w' := g.below hs (fun b hb => Nat.le_trans hB (h.own hb).1)
theorem zofA_old {α : Type} {w w1 w2 : World} {Z : Nat → Prop} {t : TypeId} {k : Nat} {E : World → (Nat → Prop) → List Value → α → Prop} (F : Fam k E) {v : Value} {xs : List α} (h : OwnA w1 w.heap.size Z t k E v xs) {cs : List Value} {x : α} (hx : E w Z cs x) (hb : Below w.heap.size w w2) : E w2 (ZofA w2 Z v) cs x :=
  F.go (F.old hx) (keepT hb) (fun _ _ => trivial) (fun b hz => ⟨hz.1, Nat.lt_of_lt_of_le hz.2 hb.size, fun e => by have := (h.own e).1; have := hz.2; omega⟩)
theorem fl_le {α : Type} {xs : List α} {P : α → Bool} (h : xs.length ≤ 4000000) : (xs.filter P).length ≤ 4000000 := Nat.le_trans (List.length_filter_le _ _) h
theorem fl_len {α : Type} {xs : List α} {P : α → Bool} (h : xs.length ≤ 4000000) (j : Nat) : ((xs.take j).filter P).length ≤ 4000000 := Nat.le_trans (List.length_filter_le _ _) (by rw [List.length_take]; omega)
theorem RowM.el {α : Type} {w : World} {Z : Nat → Prop} {k : Nat} {E : List Value → α → Prop} {v : Value} {xs : List α} (h : RowM w Z k E v xs) (hk : 0 < k) {i : Nat} (hi : i < xs.length) {cs : List Value} (hl : cs.length = k) {a : Option Addr} {n c b o : Nat} (ev : v = .slice a n c) (ea : a = some ⟨b, o, none⟩) (hc : ∀ j u, cs[j]? = some u → w.cell? ⟨b, o + i * k + j, none⟩ = some u) : E cs xs[i] := by
  subst ev
  obtain ⟨b', o', cs', e, -, -, hl', he, hc'⟩ := RowM.at h hk hi
  rw [ea] at e
  cases e
  have : cs = cs' := by
    apply List.ext_getElem?
    intro j
    by_cases hj : j < k
    · have e1 := hc j _ (List.getElem?_eq_getElem (show j < cs.length by omega))
      have e2 := hc' j _ (List.getElem?_eq_getElem (show j < cs'.length by omega))
      rw [e1] at e2
      rw [List.getElem?_eq_getElem (show j < cs.length by omega), List.getElem?_eq_getElem (show j < cs'.length by omega)]
      exact e2
    · rw [List.getElem?_eq_none (by omega), List.getElem?_eq_none (by omega)]
  rw [this]
  exact he
theorem chosenF (w : World) (Z : Nat → Prop) (d : Nat) (xs : List (CF CM)) (a : Option Addr) (c : Nat) (h : FlsR w Z d (.slice a xs.length c) xs) (fn : FuncId) (caps : Array Value) (hcf : ∀ (args : Array Value) (W : World), (callFunc fn args).run Tryz.prog W = .ok (.enter fn args) W) (P : CF CM → Bool)
    (hf : ∀ (W : World), Below w.heap.size w W → ∀ (cs : List Value) (x : CF CM), x ∈ xs → FmF d W Z cs x → Calls Tryz.prog fn (#[.agg cs.toArray] ++ caps) W fun e w' => e = .returned (.bool (P x)) ∧ Below W.heap.size W w') : Calls Tryz.prog 66 #[.slice a xs.length c, .func (.func fn) #[] caps] w fun e w' => ∃ a' c', e = .returned (.slice a' (xs.filter P).length c') ∧ RowM w' (fun b => Z b ∨ w.heap.size ≤ b) 3 (FmF d w' (fun b => Z b ∨ w.heap.size ≤ b)) (.slice a' (xs.filter P).length c') (xs.filter P) ∧ Below w.heap.size w w' := by
  obtain ⟨_, _, e1, l1⟩ := RowM.sl h
  clear e1
  have m1 : (xs.length : Int) ≤ 9223372036854775807 := by omega
  have H1 := hid h
  have HF := hid hf
  clear h hf
  go_enter Tryz.func66, Tryz.ntmps66
  go_wp2
  go_loopw [5, 10] (fun s5 s10 wr => ∃ (j n : Nat) (oa : Option Addr) (oc : Nat), s5 = .slice oa n oc ∧ s10 = .int .i64 j ∧ j ≤ xs.length ∧ Hid (((xs.take j).filter P).length = n) ∧ Hid (OwnA wr w.heap.size Z 29 3 (FmF d) (.slice oa n oc) ((xs.take j).filter P)) ∧ Hid (Below w.heap.size w wr)) (fun s5 s10 wr => xs.length - numAt wr s10)
  case atStart => exact ⟨0, 0, none, 0, rfl, rfl, by omega, hid rfl, hid (OwnA.nil _ _ _ _ _ _), hid (Below.refl _ _)⟩
  case round =>
    obtain ⟨j, n, oa, oc, rfl, rfl, hj, HLN, HO, hb⟩ := hrel
    by_cases hlt : j < xs.length
    · have k2 : (j : Int) < (xs.length : Int) := by omega
      obtain ⟨b1, o1, ka1, kc1, va1, vc1, rfl, -, hb1, c0, c1, c2, he⟩ := fls_at H1.out hlt
      have HE := hid he
      have HTK : Hid ((xs.take (j + 1)).filter P = (xs.take j).filter P ++ (if P xs[j] = true then [xs[j]] else [])) := hid (by rw [List.take_succ_eq_append_getElem hlt, List.filter_append]; simp only [List.filter_cons, List.filter_nil])
      have HME := hid (List.getElem_mem hlt)
      have HLB : Hid (n ≤ 4000000) := hid (by rw [← HLN.out]; exact fl_len l1 j)
      replace c0 := cell_below c0 hb.out
      replace c1 := cell_below c1 hb.out
      replace c2 := cell_below c2 hb.out
      replace hb1 : b1 < wr.heap.size := World.block_lt_of_cell? _ _ c0
      clear he
      generalize xs[j] = x at *
      go_wp2_with fail
      refine (HF.out _ (by have := hb.out; exact blBy) [.int .i64 x.num, .slice ka1 x.ks.length kc1, .slice va1 x.vs.length vc1] x HME.out (Fam.go (famF d) HE.out (keepT (by have := hb.out; exact blBy)) (fun _ _ => trivial) (fun _ h => h))).mono ?_
      rintro e w1 ⟨rfl, hbx⟩
      have Bx : Blk w1 wr.heap.size 29 #[.int .i64 x.num, .slice ka1 x.ks.length kc1, .slice va1 x.vs.length vc1] := (Blk.new _ _ _).kept hbx
      have HO1 := hid (HO.out.kept (famF d) (below_trans (below_alloc _) hbx))
      have hbw : Hid (Below w.heap.size w w1) := hid (bl_then (by have := hb.out; exact blBy) hbx)
      clear hbx HO c0 c1 c2
      cases hq : P x with
      | false =>
        rw [hq, if_neg (by simp), List.append_nil] at HTK
        go_wp2
        exact ⟨⟨j + 1, n, oa, oc, rfl, by simp, by omega, hid (by rw [HTK.out]; exact HLN.out), hid (by rw [HTK.out]; exact HO1.out), hbw⟩, by simp [numAt]; omega⟩
      | true =>
        rw [hq, if_pos rfl] at HTK
        have HZ : Hid (FmF d w1 (ZofA w1 Z (.slice oa n oc)) [.int .i64 x.num, .slice ka1 x.ks.length kc1, .slice va1 x.vs.length vc1] x) := hid (zofA_old (famF d) HO1.out HE.out hbw.out)
        obtain ⟨la, lc, x1, HRUN, HO2, HG⟩ := OwnA.push (famF d) 29 32 56 (.agg #[.int .i64 0, .slice none 0 0, .slice none 0 0]) Tryz.underlying32 Tryz.infoF rfl (by decide) (by decide) HO1.out HZ.out hbw.out.size (by rw [HLN.out]; exact HLB.out)
        rw [HLN.out] at HRUN HO2 HG
        have hb2 : Hid (Below w.heap.size w x1) := hid (hbw.out.trans (HO1.out.bel HG.out (Nat.le_refl _) hbw.out.size))
        have xx := Bx.cellF
        have zx := Bx.lt
        go_wp2_with (first | (at_builtin; refine wpList_append_ran rfl _ _ 32 32 rfl rfl _ _ (.slice la (n + 1) lc) x1 rfl rfl HRUN.out ?_))
        exact ⟨⟨j + 1, n + 1, la, lc, rfl, by simp, by omega, hid (by rw [HTK.out, List.length_append, HLN.out]; rfl), hid (by rw [HTK.out]; exact HO2.out), hb2⟩, by simp [numAt]; omega⟩
    · have k2 : ¬ (j : Int) < (xs.length : Int) := by omega
      have e1 : xs.take j = xs := List.take_of_length_le (by omega)
      rw [e1] at HO HLN
      have HRW := hid (HO.out.row (famF d) (fl_le l1))
      rw [← HLN.out] at HRW ⊢
      clear e1 HLN HO
      go_wp2
      go_ret
      exact ⟨oa, oc, rfl, HRW.out, hb.out⟩
theorem everyF (w : World) (Z : Nat → Prop) (d : Nat) (xs : List (CF CM)) (a : Option Addr) (c : Nat) (h : FlsR w Z d (.slice a xs.length c) xs) (fn : FuncId) (caps : Array Value) (hcf : ∀ (args : Array Value) (W : World), (callFunc fn args).run Tryz.prog W = .ok (.enter fn args) W) (P : CF CM → Bool)
    (hf : ∀ (W : World), Below w.heap.size w W → ∀ (cs : List Value) (x : CF CM), x ∈ xs → FmF d W Z cs x → Calls Tryz.prog fn (#[.agg cs.toArray] ++ caps) W fun e w' => e = .returned (.bool (P x)) ∧ Below W.heap.size W w') : Calls Tryz.prog 129 #[.slice a xs.length c, .func (.func fn) #[] caps] w fun e w' => e = .returned (.bool (xs.all P)) ∧ Below w.heap.size w w' := by
  obtain ⟨_, _, e1, l1⟩ := RowM.sl h
  clear e1
  have m1 : (xs.length : Int) ≤ 9223372036854775807 := by omega
  have H1 := hid h
  have HF := hid hf
  clear h hf
  go_enter Tryz.func129, Tryz.ntmps129
  go_wp2
  go_loopw [9] (fun s9 wr => ∃ j : Nat, s9 = .int .i64 j ∧ j ≤ xs.length ∧ Hid (xs.all P = (xs.drop j).all P) ∧ Hid (Below w.heap.size w wr)) (fun s9 wr => xs.length - numAt wr s9)
  case atStart => exact ⟨0, rfl, by omega, hid rfl, hid (Below.refl _ _)⟩
  case round =>
    obtain ⟨j, rfl, hj, HA, hb⟩ := hrel
    by_cases hlt : j < xs.length
    · have k2 : (j : Int) < (xs.length : Int) := by omega
      obtain ⟨b1, o1, ka1, kc1, va1, vc1, rfl, -, hb1, c0, c1, c2, he⟩ := fls_at (H1.out.kept hb.out) hlt
      have HE := hid he
      have HD : Hid ((xs.drop j).all P = (P xs[j] && (xs.drop (j + 1)).all P)) := hid (by rw [List.drop_eq_getElem_cons hlt, List.all_cons])
      have HME := hid (List.getElem_mem hlt)
      clear he
      generalize xs[j] = x at *
      go_wp2_with fail
      refine (HF.out _ (by have := hb.out; exact blBy) [.int .i64 x.num, .slice ka1 x.ks.length kc1, .slice va1 x.vs.length vc1] x HME.out (Fam.go (famF d) HE.out (keepT (below_alloc _)) (fun _ _ => trivial) (fun _ h => h))).mono ?_
      rintro e w1 ⟨rfl, hbx⟩
      have hbw : Hid (Below w.heap.size w w1) := hid (bl_then (by have := hb.out; exact blBy) hbx)
      clear hbx c0 c1 c2
      cases hq : P x with
      | false =>
        have HX : Hid (xs.all P = false) := hid (by rw [HA.out, HD.out, hq]; rfl)
        go_wp2
        go_ret
        exact ⟨ret_bool HX.out.symm, hbw.out⟩
      | true =>
        have HX : Hid (xs.all P = (xs.drop (j + 1)).all P) := hid (by rw [HA.out, HD.out, hq]; rfl)
        go_wp2
        exact ⟨⟨j + 1, by simp, by omega, HX, hbw⟩, by simp [numAt]; omega⟩
    · have k2 : ¬ (j : Int) < (xs.length : Int) := by omega
      have HX : Hid (xs.all P = true) := hid (by rw [HA.out, List.drop_of_length_le (by omega)]; rfl)
      go_wp2
      go_ret
      exact ⟨ret_bool HX.out.symm, hb.out⟩
theorem everyE (w : World) (Z : Nat → Prop) (xs : List (CE)) (a : Option Addr) (c : Nat) (h : EnsR w Z (.slice a xs.length c) xs) (fn : FuncId) (caps : Array Value) (hcf : ∀ (args : Array Value) (W : World), (callFunc fn args).run Tryz.prog W = .ok (.enter fn args) W) (P : CE → Bool)
    (hf : ∀ (W : World), Below w.heap.size w W → ∀ (cs : List Value) (x : CE), x ∈ xs → FmE W Z cs x → Calls Tryz.prog fn (#[.agg cs.toArray] ++ caps) W fun e w' => e = .returned (.bool (P x)) ∧ Below W.heap.size W w') : Calls Tryz.prog 131 #[.slice a xs.length c, .func (.func fn) #[] caps] w fun e w' => e = .returned (.bool (xs.all P)) ∧ Below w.heap.size w w' := by
  obtain ⟨_, _, e1, l1⟩ := RowM.sl h
  clear e1
  have m1 : (xs.length : Int) ≤ 9223372036854775807 := by omega
  have H1 := hid h
  have HF := hid hf
  clear h hf
  go_enter Tryz.func131, Tryz.ntmps131
  go_wp2
  go_loopw [9] (fun s9 wr => ∃ j : Nat, s9 = .int .i64 j ∧ j ≤ xs.length ∧ Hid (xs.all P = (xs.drop j).all P) ∧ Hid (Below w.heap.size w wr)) (fun s9 wr => xs.length - numAt wr s9)
  case atStart => exact ⟨0, rfl, by omega, hid rfl, hid (Below.refl _ _)⟩
  case round =>
    obtain ⟨j, rfl, hj, HA, hb⟩ := hrel
    by_cases hlt : j < xs.length
    · have k2 : (j : Int) < (xs.length : Int) := by omega
      obtain ⟨b1, o1, ka1, kc1, rfl, -, hb1, c0, c1, c2, c3, he⟩ := ens_at (H1.out.kept hb.out) hlt
      have HE := hid he
      have HD : Hid ((xs.drop j).all P = (P xs[j] && (xs.drop (j + 1)).all P)) := hid (by rw [List.drop_eq_getElem_cons hlt, List.all_cons])
      have HME := hid (List.getElem_mem hlt)
      clear he
      generalize xs[j] = x at *
      go_wp2_with fail
      refine (HF.out _ (by have := hb.out; exact blBy) [.int .i64 x.num, .int .i64 x.kind, .int .u64 x.n, .slice ka1 x.b.length kc1] x HME.out (Fam.go (famE) HE.out (keepT (below_alloc _)) (fun _ _ => trivial) (fun _ h => h))).mono ?_
      rintro e w1 ⟨rfl, hbx⟩
      have hbw : Hid (Below w.heap.size w w1) := hid (bl_then (by have := hb.out; exact blBy) hbx)
      clear hbx c0 c1 c2 c3
      cases hq : P x with
      | false =>
        have HX : Hid (xs.all P = false) := hid (by rw [HA.out, HD.out, hq]; rfl)
        go_wp2
        go_ret
        exact ⟨ret_bool HX.out.symm, hbw.out⟩
      | true =>
        have HX : Hid (xs.all P = (xs.drop (j + 1)).all P) := hid (by rw [HA.out, HD.out, hq]; rfl)
        go_wp2
        exact ⟨⟨j + 1, by simp, by omega, HX, hbw⟩, by simp [numAt]; omega⟩
    · have k2 : ¬ (j : Int) < (xs.length : Int) := by omega
      have HX : Hid (xs.all P = true) := hid (by rw [HA.out, List.drop_of_length_le (by omega)]; rfl)
      go_wp2
      go_ret
      exact ⟨ret_bool HX.out.symm, hb.out⟩
theorem everyV (w : World) (Z : Nat → Prop) (d : Nat) (xs : List (CV CM)) (a : Option Addr) (c : Nat) (h : VlsR w Z d (.slice a xs.length c) xs) (fn : FuncId) (caps : Array Value) (hcf : ∀ (args : Array Value) (W : World), (callFunc fn args).run Tryz.prog W = .ok (.enter fn args) W) (P : CV CM → Bool)
    (hf : ∀ (W : World), Below w.heap.size w W → ∀ (cs : List Value) (x : CV CM), x ∈ xs → FmV d W Z cs x → Calls Tryz.prog fn (#[.agg cs.toArray] ++ caps) W fun e w' => e = .returned (.bool (P x)) ∧ Below W.heap.size W w') : Calls Tryz.prog 157 #[.slice a xs.length c, .func (.func fn) #[] caps] w fun e w' => e = .returned (.bool (xs.all P)) ∧ Below w.heap.size w w' := by
  obtain ⟨_, _, e1, l1⟩ := RowM.sl h
  clear e1
  have m1 : (xs.length : Int) ≤ 9223372036854775807 := by omega
  have H1 := hid h
  have HF := hid hf
  clear h hf
  go_enter Tryz.func157, Tryz.ntmps157
  go_wp2
  go_loopw [9] (fun s9 wr => ∃ j : Nat, s9 = .int .i64 j ∧ j ≤ xs.length ∧ Hid (xs.all P = (xs.drop j).all P) ∧ Hid (Below w.heap.size w wr)) (fun s9 wr => xs.length - numAt wr s9)
  case atStart => exact ⟨0, rfl, by omega, hid rfl, hid (Below.refl _ _)⟩
  case round =>
    obtain ⟨j, rfl, hj, HA, hb⟩ := hrel
    by_cases hlt : j < xs.length
    · have k2 : (j : Int) < (xs.length : Int) := by omega
      obtain ⟨b1, o1, ka1, kc1, va1, vc1, rfl, -, hb1, c0, c1, c2, he⟩ := vls_at (H1.out.kept hb.out) hlt
      have HE := hid he
      have HD : Hid ((xs.drop j).all P = (P xs[j] && (xs.drop (j + 1)).all P)) := hid (by rw [List.drop_eq_getElem_cons hlt, List.all_cons])
      have HME := hid (List.getElem_mem hlt)
      clear he
      generalize xs[j] = x at *
      go_wp2_with fail
      refine (HF.out _ (by have := hb.out; exact blBy) [.int .u64 x.n, .slice ka1 x.b.length kc1, .slice va1 x.ms.length vc1] x HME.out (Fam.go (famV d) HE.out (keepT (below_alloc _)) (fun _ _ => trivial) (fun _ h => h))).mono ?_
      rintro e w1 ⟨rfl, hbx⟩
      have hbw : Hid (Below w.heap.size w w1) := hid (bl_then (by have := hb.out; exact blBy) hbx)
      clear hbx c0 c1 c2
      cases hq : P x with
      | false =>
        have HX : Hid (xs.all P = false) := hid (by rw [HA.out, HD.out, hq]; rfl)
        go_wp2
        go_ret
        exact ⟨ret_bool HX.out.symm, hbw.out⟩
      | true =>
        have HX : Hid (xs.all P = (xs.drop (j + 1)).all P) := hid (by rw [HA.out, HD.out, hq]; rfl)
        go_wp2
        exact ⟨⟨j + 1, by simp, by omega, HX, hbw⟩, by simp [numAt]; omega⟩
    · have k2 : ¬ (j : Int) < (xs.length : Int) := by omega
      have HX : Hid (xs.all P = true) := hid (by rw [HA.out, List.drop_of_length_le (by omega)]; rfl)
      go_wp2
      go_ret
      exact ⟨ret_bool HX.out.symm, hb.out⟩
end Go.Proofs.YtpmpfcnmjdeoiaaGreatDoor
namespace Go.Proofs.YtpmpfcnmjdeoiaaGreatDoor
open Go.RowKit Go.Shelf
set_option maxRecDepth 1000000
attribute [local go_sem] Oper.semAt_some
set_option linter.unusedVariables false
set_option linter.unusedSimpArgs false
set_option maxHeartbeats 2000000
/-- A message that lies in w. -/
abbrev XM (w : World) (Z : Nat → Prop) (d : Nat) (L : List CM) : Type := {x : List Value × CM // MsgE w Z d x.1 x.2 ∧ x.2 ∈ L}
def encM {w : World} {Z : Nat → Prop} {d : Nat} {L : List CM} (x : XM w Z d L) : Array Value := #[.agg x.1.1.toArray]
def allM (x : CF CM) : List CM := x.ks.flatMap CV.ms ++ x.vs.flatMap CV.ms
theorem abide_alloc {β : Type} {B : Nat} {J : β → World → Prop} (h : AbidesFrom B J) {s : β} {W : World} (hs : J s W) (o : Obj) : J s (W.alloc o) := h s W _ none hs (World.grownBy_alloc W o none) (fun r e => by cases e)
theorem flat_split {l : List (CV CM)} {j k : Nat} (hj : j < l.length) (hk : k < l[j].ms.length) : l.flatMap CV.ms = (l.take j).flatMap CV.ms ++ (l[j].ms.take k ++ (l[j].ms[k] :: (l[j].ms.drop (k + 1) ++ (l.drop (j + 1)).flatMap CV.ms))) := by
  have e : l.flatMap CV.ms = (l.take j).flatMap CV.ms ++ (l[j].ms ++ (l.drop (j + 1)).flatMap CV.ms) := by
    conv => lhs; rw [← List.take_append_drop j l, List.drop_eq_getElem_cons hj]
    rw [List.flatMap_append, List.flatMap_cons]
  have e2 : l[j].ms = l[j].ms.take k ++ (l[j].ms[k] :: l[j].ms.drop (k + 1)) := by
    conv => lhs; rw [← List.take_append_drop k l[j].ms, List.drop_eq_getElem_cons hk]
  rw [e]
  conv => lhs; rw [e2]
  simp only [List.append_assoc, List.cons_append]
theorem flat_next {l : List (CV CM)} {j : Nat} (hj : j < l.length) : (l.take (j + 1)).flatMap CV.ms = (l.take j).flatMap CV.ms ++ l[j].ms := by
  rw [List.take_succ_eq_append_getElem hj, List.flatMap_append]
  simp
theorem msgsOf_in (w : World) (Z : Nat → Prop) (d : Nat) (n : Nat) (hn : 1 ≤ n) (p : Nat) (x : CF CM) (ka va : Option Addr) (kc vc : Nat) (hp : Blk w p 29 #[.int .i64 x.num, .slice ka x.ks.length kc, .slice va x.vs.length vc]) (h1 : VlsR w Z d (.slice ka x.ks.length kc) x.ks) (h2 : VlsR w Z d (.slice va x.vs.length vc) x.vs) :
    SeqStopsK Fence.wide n Tryz.prog 122 #[.pointer (some ⟨p, 0, none⟩)] (encM (w := w) (Z := Z) (d := d) (L := allM x)) (Below w.heap.size) (fun xs => xs.map (fun y => y.1.2) = allM x) (fun xs => xs.map (fun y => y.1.2) <+: allM x) (allM x).length w := by
  intro l J Jx W hW hJ hJx hY h0
  have H1 := hid h1
  have H2 := hid h2
  have HJ := hid hJ
  have HY := hid hY
  have HW := hid hW
  have Bp := hp.kept hW
  have xp := Bp.cellF
  have zp := Bp.lt
  clear h1 h2 hp hJ hJx hY hW Bp
  refine callsIn_of_wp Tryz.func122 rfl trivial ?_ rfl
  simp only [Tryz.ntmps122, List.size_toArray, List.length_cons, List.length_nil, Nat.reduceAdd, Nat.reduceSub, Array.replicate_succ, Array.replicate_zero, List.push_toArray, List.append_toArray, List.nil_append, List.cons_append]
  gi_wp2
  gi_loopw [14] (fun s wr => ∃ (i : Nat) (pre : List (XM w Z d (allM x))), s = .int .i64 i ∧ i ≤ 2 ∧ Hid (pre.map (fun y => y.1.2) = (([x.ks, x.vs] : List (List (CV CM))).take i).flatMap (fun l => l.flatMap CV.ms)) ∧ Hid (J pre wr) ∧ Hid (Below w.heap.size w wr)) (fun s _ => 2 - (intOf s).toNat)
  case atStart => exact ⟨0, [], rfl, by omega, hid rfl, hid h0, HW⟩
  case round =>
    obtain ⟨i, pre, rfl, hi, HP, HJ0, hb⟩ := hrel
    by_cases hlt : i < 2
    · have k0 : (i : Int) < 2 := by omega
      obtain ⟨xs, la, lc, P0, R0, hidx, HV, HP0, HAL, HNX⟩ : ∃ (xs : List (CV CM)) (la : Option Addr) (lc : Nat) (P0 R0 : List CM), (∀ W, (Instr.index 149 (.agg #[.slice ka x.ks.length kc, .slice va x.vs.length vc]) (.int .i64 (i : Int))).run Tryz.prog W = .ok (.slice la xs.length lc) W) ∧ Hid (VlsR w Z d (.slice la xs.length lc) xs) ∧ Hid (pre.map (fun y => y.1.2) = P0) ∧ Hid (allM x = P0 ++ (xs.flatMap CV.ms ++ R0)) ∧ Hid ((([x.ks, x.vs] : List (List (CV CM))).take (i + 1)).flatMap (fun l => l.flatMap CV.ms) = P0 ++ xs.flatMap CV.ms) := by
        have ei : i = 0 ∨ i = 1 := by omega
        rcases ei with rfl | rfl
        · exact ⟨x.ks, ka, kc, [], x.vs.flatMap CV.ms, fun W => by rfl, H1, hid (by rw [HP.out]; rfl), hid rfl, hid (by simp)⟩
        · exact ⟨x.vs, va, vc, x.ks.flatMap CV.ms, [], fun W => by rfl, H2, hid (by rw [HP.out]; simp), hid (by unfold allM; simp), hid (by simp)⟩
      obtain ⟨_, _, e1, l1⟩ := RowM.sl HV.out
      clear e1
      have m1 : (xs.length : Int) ≤ 9223372036854775807 := by omega
      clear HP
      gi_wp2
      gi_loopw [19] (fun s wr => ∃ (j : Nat) (pre : List (XM w Z d (allM x))), s = .int .i64 j ∧ j ≤ xs.length ∧ Hid (pre.map (fun y => y.1.2) = P0 ++ (xs.take j).flatMap CV.ms) ∧ Hid (J pre wr) ∧ Hid (Below w.heap.size w wr)) (fun s _ => xs.length - (intOf s).toNat)
      case atStart => exact ⟨0, pre, rfl, by omega, hid (by rw [HP0.out]; simp), HJ0, hb⟩
      case round =>
        clear HJ0 hb
        obtain ⟨j, pre, rfl, hj, HP, HJ0, hb⟩ := hrel
        by_cases hjl : j < xs.length
        · have k1 : (j : Int) < (xs.length : Int) := by omega
          obtain ⟨b1, o1, ba1, bc1, ma1, mc1, rfl, -, hb1, c0, c1, c2, he⟩ := vls_at HV.out hjl
          obtain ⟨_, _, _, _, e1, -, q1, -, ml1, -⟩ := val_open he
          simp only [List.cons.injEq, Value.slice.injEq, true_and, and_true] at e1
          obtain ⟨⟨rfl, rfl⟩, rfl, rfl⟩ := e1
          have Q := hid q1
          have HSP := hid (fun k (hk : k < xs[j].ms.length) => flat_split hjl hk)
          have HNJ := hid (flat_next hjl)
          replace c0 := cell_below c0 hb.out
          replace c1 := cell_below c1 hb.out
          replace c2 := cell_below c2 hb.out
          replace hb1 : b1 < wr.heap.size := World.block_lt_of_cell? _ _ c0
          clear he q1
          generalize xs[j] = v at *
          have ml3 : (v.ms.length : Int) ≤ 9223372036854775807 := by omega
          gi_wp2
          gi_loopw [26] (fun s wr => ∃ (k : Nat) (pre : List (XM w Z d (allM x))), s = .int .i64 k ∧ k ≤ v.ms.length ∧ Hid (pre.map (fun y => y.1.2) = P0 ++ ((xs.take j).flatMap CV.ms ++ v.ms.take k)) ∧ Hid (J pre wr) ∧ Hid (Below w.heap.size w wr)) (fun s _ => v.ms.length - (intOf s).toNat)
          case atStart => exact ⟨0, pre, rfl, by omega, hid (by rw [HP.out]; simp), hid (abide_alloc HJ.out HJ0.out _), hid (by have := hb.out; exact blBy)⟩
          case round =>
            clear HJ0 hb HP c0 c1 c2 hb1
            obtain ⟨k, pre, rfl, hk, HP, HJ0, hb⟩ := hrel
            by_cases hkl : k < v.ms.length
            · have k2 : (k : Int) < (v.ms.length : Int) := by omega
              obtain ⟨p1, r1, fa1, fc1, ua1, uc1, rfl, -, hp1, m10, m11, hm1⟩ := mgs_at' Q.out hkl
              have HSK := hid (HSP.out k hkl)
              have HTK : Hid (v.ms.take (k + 1) = v.ms.take k ++ [v.ms[k]]) := hid (List.take_succ_eq_append_getElem hkl)
              replace m10 := cell_below m10 hb.out
              replace m11 := cell_below m11 hb.out
              replace hp1 : p1 < wr.heap.size := World.block_lt_of_cell? _ _ m10
              generalize v.ms[k] = m at *
              have HLN : pre.length < (allM x).length := by
                have e1 : pre.length = (P0 ++ ((xs.take j).flatMap CV.ms ++ v.ms.take k)).length := by rw [← HP.out, List.length_map]
                rw [e1, HAL.out, HSK.out]
                simp only [List.length_append, List.length_cons]
                omega
              have HPX : Hid (P0 ++ ((xs.take j).flatMap CV.ms ++ v.ms.take (k + 1)) <+: allM x) := hid (by
                rw [HAL.out, HSK.out, HTK.out]
                exact ⟨v.ms.drop (k + 1) ++ (xs.drop (j + 1)).flatMap CV.ms ++ R0, by simp only [List.append_assoc, List.cons_append, List.nil_append]⟩)
              have HME : Hid (MsgE w Z d [.slice fa1 m.fs.length fc1, .slice ua1 m.us.length uc1] m) := hid hm1
              have HIN : Hid (m ∈ allM x) := hid (by rw [HAL.out, HSK.out]; simp)
              clear hm1
              obtain ⟨fn, tmps, assign, body, hy, hR⟩ := HY.out pre ⟨([.slice fa1 m.fs.length fc1, .slice ua1 m.us.length uc1], m), HME.out, HIN.out⟩ (wr.alloc (.cells #[.slice fa1 m.fs.length fc1, .slice ua1 m.us.length uc1] 35)) (abide_alloc HJ.out HJ0.out _) HLN
              dsimp only [encM] at hy
              have HR := hid hR
              clear hR HLN
              gi_wp2
              refine HR.out.mono ?_
              rintro e W3 (⟨rfl, hJ3, hk3⟩ | ⟨rfl, hJx3⟩)
              · have hb3 : Hid (Below w.heap.size w W3) := hid (Below.trans (by have := hb.out; exact blBy) hk3)
                have HJ3 := hid hJ3
                clear hJ3 hk3 hy m10 m11 hp1
                gi_wp2
                exact ⟨⟨k + 1, _, by simp, by omega, hid (by rw [List.map_append, HP.out, HTK.out]; simp), HJ3, hb3⟩, by simp [intOf]; omega⟩
              · have HJ3 := hid hJx3
                clear hJx3 hy m10 m11 hp1
                gi_wp2
                refine bodyPost_ret (results_none rfl _ _ _) rfl ?_
                exact ⟨⟨_, rfl⟩, .inr ⟨_, by rw [List.map_append, HP.out]; have := HPX.out; rw [HTK.out] at this; simpa using this, HJ3.out⟩⟩
            · have k2 : ¬ (k : Int) < (v.ms.length : Int) := by omega
              have e1 : v.ms.take k = v.ms := List.take_of_length_le (by omega)
              rw [e1] at HP
              clear e1
              gi_wp2
              exact ⟨⟨j + 1, pre, by simp, by omega, hid (by rw [HP.out, HNJ.out]), HJ0, hb⟩, by simp [intOf]; omega⟩
        · have k1 : ¬ (j : Int) < (xs.length : Int) := by omega
          have e1 : xs.take j = xs := List.take_of_length_le (by omega)
          rw [e1] at HP
          clear e1
          gi_wp2
          exact ⟨⟨i + 1, pre, by simp, by omega, hid (by rw [HP.out, HNX.out]), HJ0, hb⟩, by simp [intOf]; omega⟩
    · have k0 : ¬ (i : Int) < 2 := by omega
      have ei : i = 2 := by omega
      rw [ei] at HP
      clear ei
      gi_wp2
      go_end0
      exact ⟨⟨_, rfl⟩, .inl ⟨pre, by rw [HP.out]; unfold allM; simp, HJ0.out⟩⟩
end Go.Proofs.YtpmpfcnmjdeoiaaGreatDoor
