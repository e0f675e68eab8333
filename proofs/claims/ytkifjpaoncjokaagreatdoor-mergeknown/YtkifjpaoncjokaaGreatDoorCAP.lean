/-
  The messages of a field, one by one: the iterator's contract.
  Copy: what the program answers.
  The walk through a message and all messages within it, by types.
  The type of the messages in a field.
-/
import Derived.Test.YtkifjpaoncjokaaGreatDoorCAA
import Derived.RangeFuncNested
import Derived.RangeFuncBound
import Derived.RangeFuncCalls
import Derived.RangeFuncLeaves
import Derived.Shelf.Abstract
import Derived.Shelf.RegionOpen
import Derived.WalkKit
import Derived.OwnWalkIn
import Derived.TacticsInMore
import Derived.LoopNIn
import Derived.LoopIn
import Derived.Deep.RegionHeld3
import Derived.Test.YtkifjpaoncjokaaGreatDoorCTY
namespace Go.Proofs.YtkifjpaoncjokaaGreatDoor
open Go.RowKit Go.Shelf
set_option maxRecDepth 1000000
attribute [local go_sem] Oper.semAt_some
set_option linter.unusedVariables false
set_option linter.unusedSimpArgs false
set_option maxHeartbeats 2000000
/-- A message that lies in w. -/
abbrev XM (w : World) (Z : Nat → Prop) (d : Nat) (L : List CM) : Type := {x : List Value × CM // MsgE w Z d x.1 x.2 ∧ x.2 ∈ L}
def encM {w : World} {Z : Nat → Prop} {d : Nat} {L : List CM} (x : XM w Z d L) : Array Value := #[.agg x.1.1.toArray]
def allM (x : CF CM) : List CM := x.ks.flatMap CV.ms ++ x.vs.flatMap CV.ms
theorem abide_alloc {β : Type} {B : Nat} {J : β → World → Prop} (h : AbidesFrom B J) {s : β} {W : World} (hs : J s W) (o : Obj) : J s (W.alloc o) := h s W _ none hs (World.grownBy_alloc W o none) (fun r e => by cases e)
theorem flat_split {l : List (CV CM)} {j k : Nat} (hj : j < l.length) (hk : k < l[j].ms.length) : l.flatMap CV.ms = (l.take j).flatMap CV.ms ++ (l[j].ms.take k ++ (l[j].ms[k] :: (l[j].ms.drop (k + 1) ++ (l.drop (j + 1)).flatMap CV.ms))) := by
  have e : l.flatMap CV.ms = (l.take j).flatMap CV.ms ++ (l[j].ms ++ (l.drop (j + 1)).flatMap CV.ms) := by
    conv => lhs; rw [← List.take_append_drop j l, List.drop_eq_getElem_cons hj]
    rw [List.flatMap_append, List.flatMap_cons]
  have e2 : l[j].ms = l[j].ms.take k ++ (l[j].ms[k] :: l[j].ms.drop (k + 1)) := by
    conv => lhs; rw [← List.take_append_drop k l[j].ms, List.drop_eq_getElem_cons hk]
  rw [e]
  conv => lhs; rw [e2]
  simp only [List.append_assoc, List.cons_append]
theorem flat_next {l : List (CV CM)} {j : Nat} (hj : j < l.length) : (l.take (j + 1)).flatMap CV.ms = (l.take j).flatMap CV.ms ++ l[j].ms := by
  rw [List.take_succ_eq_append_getElem hj, List.flatMap_append]
  simp
theorem msgsOf_in (w : World) (Z : Nat → Prop) (d : Nat) (n : Nat) (hn : 1 ≤ n) (p : Nat) (x : CF CM) (ka va : Option Addr) (kc vc : Nat) (hp : Blk w p 33 #[.int .i64 x.num, .slice ka x.ks.length kc, .slice va x.vs.length vc]) (h1 : VlsR w Z d (.slice ka x.ks.length kc) x.ks) (h2 : VlsR w Z d (.slice va x.vs.length vc) x.vs) :
    SeqStopsK Fence.wide n Tryz.prog 148 #[.pointer (some ⟨p, 0, none⟩)] (encM (w := w) (Z := Z) (d := d) (L := allM x)) (Below w.heap.size) (fun xs => xs.map (fun y => y.1.2) = allM x) (fun xs => xs.map (fun y => y.1.2) <+: allM x) (allM x).length w := by
  intro l J Jx W hW hJ hJx hY h0
  have H1 := hid h1
  have H2 := hid h2
  have HJ := hid hJ
  have HY := hid hY
  have HW := hid hW
  have Bp := hp.kept hW
  have xp := Bp.cellF
  have zp := Bp.lt
  clear h1 h2 hp hJ hJx hY hW Bp
  refine callsIn_of_wp Tryz.func148 rfl trivial ?_ rfl
  simp only [Tryz.ntmps148, List.size_toArray, List.length_cons, List.length_nil, Nat.reduceAdd, Nat.reduceSub, Array.replicate_succ, Array.replicate_zero, List.push_toArray, List.append_toArray, List.nil_append, List.cons_append]
  gi_wp2
  gi_loopw [14] (fun s wr => ∃ (i : Nat) (pre : List (XM w Z d (allM x))), s = .int .i64 i ∧ i ≤ 2 ∧ Hid (pre.map (fun y => y.1.2) = (([x.ks, x.vs] : List (List (CV CM))).take i).flatMap (fun l => l.flatMap CV.ms)) ∧ Hid (J pre wr) ∧ Hid (Below w.heap.size w wr)) (fun s _ => 2 - (intOf s).toNat)
  case atStart => exact ⟨0, [], rfl, by omega, hid rfl, hid h0, HW⟩
  case round =>
    obtain ⟨i, pre, rfl, hi, HP, HJ0, hb⟩ := hrel
    by_cases hlt : i < 2
    · have k0 : (i : Int) < 2 := by omega
      obtain ⟨xs, la, lc, P0, R0, hidx, HV, HP0, HAL, HNX⟩ : ∃ (xs : List (CV CM)) (la : Option Addr) (lc : Nat) (P0 R0 : List CM), (∀ W, (Instr.index 202 (.agg #[.slice ka x.ks.length kc, .slice va x.vs.length vc]) (.int .i64 (i : Int))).run Tryz.prog W = .ok (.slice la xs.length lc) W) ∧ Hid (VlsR w Z d (.slice la xs.length lc) xs) ∧ Hid (pre.map (fun y => y.1.2) = P0) ∧ Hid (allM x = P0 ++ (xs.flatMap CV.ms ++ R0)) ∧ Hid ((([x.ks, x.vs] : List (List (CV CM))).take (i + 1)).flatMap (fun l => l.flatMap CV.ms) = P0 ++ xs.flatMap CV.ms) := by
        have ei : i = 0 ∨ i = 1 := by omega
        rcases ei with rfl | rfl
        · exact ⟨x.ks, ka, kc, [], x.vs.flatMap CV.ms, fun W => by rfl, H1, hid (by rw [HP.out]; rfl), hid rfl, hid (by simp)⟩
        · exact ⟨x.vs, va, vc, x.ks.flatMap CV.ms, [], fun W => by rfl, H2, hid (by rw [HP.out]; simp), hid (by unfold allM; simp), hid (by simp)⟩
      obtain ⟨_, _, e1, l1⟩ := RowM.sl HV.out
      clear e1
      have m1 : (xs.length : Int) ≤ 9223372036854775807 := by omega
      clear HP
      gi_wp2
      gi_loopw [19] (fun s wr => ∃ (j : Nat) (pre : List (XM w Z d (allM x))), s = .int .i64 j ∧ j ≤ xs.length ∧ Hid (pre.map (fun y => y.1.2) = P0 ++ (xs.take j).flatMap CV.ms) ∧ Hid (J pre wr) ∧ Hid (Below w.heap.size w wr)) (fun s _ => xs.length - (intOf s).toNat)
      case atStart => exact ⟨0, pre, rfl, by omega, hid (by rw [HP0.out]; simp), HJ0, hb⟩
      case round =>
        clear HJ0 hb
        obtain ⟨j, pre, rfl, hj, HP, HJ0, hb⟩ := hrel
        by_cases hjl : j < xs.length
        · have k1 : (j : Int) < (xs.length : Int) := by omega
          obtain ⟨b1, o1, ba1, bc1, ma1, mc1, rfl, -, hb1, c0, c1, c2, he⟩ := vls_at HV.out hjl
          obtain ⟨_, _, _, _, e1, -, q1, -, ml1, -⟩ := val_open he
          simp only [List.cons.injEq, Value.slice.injEq, true_and, and_true] at e1
          obtain ⟨⟨rfl, rfl⟩, rfl, rfl⟩ := e1
          have Q := hid q1
          have HSP := hid (fun k (hk : k < xs[j].ms.length) => flat_split hjl hk)
          have HNJ := hid (flat_next hjl)
          replace c0 := cell_below c0 hb.out
          replace c1 := cell_below c1 hb.out
          replace c2 := cell_below c2 hb.out
          replace hb1 : b1 < wr.heap.size := World.block_lt_of_cell? _ _ c0
          clear he q1
          generalize xs[j] = v at *
          have ml3 : (v.ms.length : Int) ≤ 9223372036854775807 := by omega
          gi_wp2
          gi_loopw [26] (fun s wr => ∃ (k : Nat) (pre : List (XM w Z d (allM x))), s = .int .i64 k ∧ k ≤ v.ms.length ∧ Hid (pre.map (fun y => y.1.2) = P0 ++ ((xs.take j).flatMap CV.ms ++ v.ms.take k)) ∧ Hid (J pre wr) ∧ Hid (Below w.heap.size w wr)) (fun s _ => v.ms.length - (intOf s).toNat)
          case atStart => exact ⟨0, pre, rfl, by omega, hid (by rw [HP.out]; simp), hid (abide_alloc HJ.out HJ0.out _), hid (by have := hb.out; exact blBy)⟩
          case round =>
            clear HJ0 hb HP c0 c1 c2 hb1
            obtain ⟨k, pre, rfl, hk, HP, HJ0, hb⟩ := hrel
            by_cases hkl : k < v.ms.length
            · have k2 : (k : Int) < (v.ms.length : Int) := by omega
              obtain ⟨p1, r1, fa1, fc1, ua1, uc1, rfl, -, hp1, m10, m11, hm1⟩ := mgs_at' Q.out hkl
              have HSK := hid (HSP.out k hkl)
              have HTK : Hid (v.ms.take (k + 1) = v.ms.take k ++ [v.ms[k]]) := hid (List.take_succ_eq_append_getElem hkl)
              replace m10 := cell_below m10 hb.out
              replace m11 := cell_below m11 hb.out
              replace hp1 : p1 < wr.heap.size := World.block_lt_of_cell? _ _ m10
              generalize v.ms[k] = m at *
              have HLN : pre.length < (allM x).length := by
                have e1 : pre.length = (P0 ++ ((xs.take j).flatMap CV.ms ++ v.ms.take k)).length := by rw [← HP.out, List.length_map]
                rw [e1, HAL.out, HSK.out]
                simp only [List.length_append, List.length_cons]
                omega
              have HPX : Hid (P0 ++ ((xs.take j).flatMap CV.ms ++ v.ms.take (k + 1)) <+: allM x) := hid (by
                rw [HAL.out, HSK.out, HTK.out]
                exact ⟨v.ms.drop (k + 1) ++ (xs.drop (j + 1)).flatMap CV.ms ++ R0, by simp only [List.append_assoc, List.cons_append, List.nil_append]⟩)
              have HME : Hid (MsgE w Z d [.slice fa1 m.fs.length fc1, .slice ua1 m.us.length uc1] m) := hid hm1
              have HIN : Hid (m ∈ allM x) := hid (by rw [HAL.out, HSK.out]; simp)
              clear hm1
              obtain ⟨fn, tmps, assign, body, hy, hR⟩ := HY.out pre ⟨([.slice fa1 m.fs.length fc1, .slice ua1 m.us.length uc1], m), HME.out, HIN.out⟩ (wr.alloc (.cells #[.slice fa1 m.fs.length fc1, .slice ua1 m.us.length uc1] 29)) (abide_alloc HJ.out HJ0.out _) HLN
              dsimp only [encM] at hy
              have HR := hid hR
              clear hR HLN
              gi_wp2
              refine HR.out.mono ?_
              rintro e W3 (⟨rfl, hJ3, hk3⟩ | ⟨rfl, hJx3⟩)
              · have hb3 : Hid (Below w.heap.size w W3) := hid (Below.trans (by have := hb.out; exact blBy) hk3)
                have HJ3 := hid hJ3
                clear hJ3 hk3 hy m10 m11 hp1
                gi_wp2
                exact ⟨⟨k + 1, _, by simp, by omega, hid (by rw [List.map_append, HP.out, HTK.out]; simp), HJ3, hb3⟩, by simp [intOf]; omega⟩
              · have HJ3 := hid hJx3
                clear hJx3 hy m10 m11 hp1
                gi_wp2
                refine bodyPost_ret (results_none rfl _ _ _) rfl ?_
                exact ⟨⟨_, rfl⟩, .inr ⟨_, by rw [List.map_append, HP.out]; have := HPX.out; rw [HTK.out] at this; simpa using this, HJ3.out⟩⟩
            · have k2 : ¬ (k : Int) < (v.ms.length : Int) := by omega
              have e1 : v.ms.take k = v.ms := List.take_of_length_le (by omega)
              rw [e1] at HP
              clear e1
              gi_wp2
              exact ⟨⟨j + 1, pre, by simp, by omega, hid (by rw [HP.out, HNJ.out]), HJ0, hb⟩, by simp [intOf]; omega⟩
        · have k1 : ¬ (j : Int) < (xs.length : Int) := by omega
          have e1 : xs.take j = xs := List.take_of_length_le (by omega)
          rw [e1] at HP
          clear e1
          gi_wp2
          exact ⟨⟨i + 1, pre, by simp, by omega, hid (by rw [HP.out, HNX.out]), HJ0, hb⟩, by simp [intOf]; omega⟩
    · have k0 : ¬ (i : Int) < 2 := by omega
      have ei : i = 2 := by omega
      rw [ei] at HP
      clear ei
      gi_wp2
      go_end0
      exact ⟨⟨_, rfl⟩, .inl ⟨pre, by rw [HP.out]; unfold allM; simp, HJ0.out⟩⟩
end Go.Proofs.YtkifjpaoncjokaaGreatDoor
namespace Go.Proofs.YtkifjpaoncjokaaGreatDoor
open Go.RowKit
set_option maxRecDepth 1000000
set_option linter.unusedVariables false
set_option linter.unusedSimpArgs false
set_option maxHeartbeats 2000000
theorem kpS {f : Nat → Prop} {w W : World} {a : Addr} {v : Value} (h : Keep f w W) (ha : ¬ f a.block) : Keep f w (W.setCell a v) := h.trans (Keep.setCell _ _ _ ha)
theorem kpA {f : Nat → Prop} {w W : World} (h : Keep f w W) (o : Obj) : Keep f w (W.alloc o) := h.trans (Keep.ofBelow (below_alloc o))
theorem kpD {f : Nat → Prop} {w W : World} (h : Keep f w W) : Keep f w W.drew := h.trans (Keep.ofBelow (below_drew1 W))
theorem kpN {f : Nat → Prop} {w W : World} (h : Keep f w W) (n : Nat) : Keep f w (W.drewN n) := h.trans (Keep.ofBelow (below_drewN W n))
theorem newEntryT (w : World) (Z : Nat → Prop) (cs : List Value) (x : CE) (h : EntE w Z cs x) : Calls Tryz.prog 82 #[.agg cs.toArray] w (NewE FmE w x) := by
  obtain ⟨ka, kc, rfl, g, -, u1, u2, u3⟩ := ent_open h
  have G := hid g
  have U := hid (And.intro u1 (And.intro u2 u3))
  clear g h u1 u2 u3
  go_enter Tryz.func82, Tryz.ntmps82
  go_wp2_with fail
  refine (newBytesT _ Z ka kc x.b (G.out.kept (by exact blBy))).mono ?_
  rintro e w1 ⟨a1, c1, rfl, hn, hbx⟩
  have Bx : Blk w1 w.heap.size 118 #[.int .i64 x.num, .int .i64 x.kind, .int .u64 x.n, .slice ka x.b.length kc] := ((Blk.new _ _ _).kept (below_alloc _)).kept hbx
  have Br : Blk w1 (w.heap.size + 1) 118 #[.int .i64 0, .int .i64 0, .int .u64 0, .slice none 0 0] := (Blk.newAt (by simp)).kept hbx
  have HN : Hid (ByE w1 (w.heap.size + 2 ≤ ·) (.slice a1 x.b.length c1) x.b) := hid (hn.weak (fun k hk => by simpa using hk))
  have hbz : Hid (Below w.heap.size w w1) := hid (bl_then (by exact blBy) hbx)
  clear hbx hn
  have xx := Bx.cellF
  have yx := Bx.frz
  have zx := Bx.lt
  have xr := Br.cellF
  have yr := Br.frz
  have zr := Br.lt
  go_wp2
  exact bodyPost_ret (v := .agg #[.int .i64 x.num, .int .i64 x.kind, .int .u64 x.n, .slice a1 x.b.length c1]) (by simp [results, Tryz.results82, go_sem, xr, zr, yr, xx, yx, zx]) rfl (NewE.mk [.int .i64 x.num, .int .i64 x.kind, .int .u64 x.n, .slice a1 x.b.length c1] ⟨_, rfl, (HN.out.keep (f := (w.heap.size + 2 ≤ ·)) (by with_reducible repeat (first | exact Keep.refl _ _ | refine kpS ?_ (by first | (simp; done) | (simp; omega) | omega) | refine kpA ?_ _ | refine kpD ?_ | refine kpN ?_ _)) (fun _ h => h)).weak (fun k hk => by omega), U.out⟩ (by have := hbz.out; exact blBy))
/-- Copy's walk at a depth. -/
def CpAt (d : Nat) : Prop := ∀ (w : World) (Z : Nat → Prop) (cs : List Value) (m : CM), MsgE w Z d cs m → Calls Tryz.prog 51 #[.agg #[], .agg cs.toArray, .func (.func 49) #[] #[], .func (.func 50) #[] #[]] w (NewE (FmM d) w m)
/-- What the closures share: the messages' type (none), what stays, what is below. -/
structure CpB (w : World) (p4 p6 p7 : Nat) : Prop where
  k : Blk w p4 106 #[]
  s : Blk w p6 107 #[.func (.func 49) #[] #[]]
  b : Blk w p7 108 #[.func (.func 50) #[] #[]]
theorem CpB.kept {w w' : World} {p4 p6 p7 : Nat} (h : CpB w p4 p6 p7) (hb : Below w.heap.size w w') : CpB w' p4 p6 p7 := ⟨h.k.kept hb, h.s.kept hb, h.b.kept hb⟩
theorem newMsgT (d : Nat) (HC : CpAt d) (w : World) (Z : Nat → Prop) (cs : List Value) (m : CM) (h : MsgE w Z d cs m) (p4 p6 p7 : Nat) (hB : CpB w p4 p6 p7) : Calls Tryz.prog 75 #[.agg cs.toArray, .pointer (some ⟨p4, 0, none⟩), .pointer (some ⟨p6, 0, none⟩), .pointer (some ⟨p7, 0, none⟩)] w (NewE (FmM d) w m) := by
  obtain ⟨ka, kc, va, vc, rfl, -⟩ := msg_openD h
  have H := hid h
  replace HC := hid HC
  have xs := hB.s.cellF
  have zs := hB.s.lt
  have xb := hB.b.cellF
  have zb := hB.b.lt
  have zk := hB.k.lt
  clear h hB
  go_enter Tryz.func75, Tryz.ntmps75
  go_wp2_with fail
  refine (HC.out _ Z [.slice ka m.fs.length kc, .slice va m.us.length vc] m (H.out.kept (by exact blBy))).mono ?_
  rintro e w1 ⟨ds, rfl, hn, hbx⟩
  have Br : Blk w1 (w.heap.size + 1) 29 #[.slice none 0 0, .slice none 0 0] := (Blk.newAt (by simp)).kept hbx
  have HN : Hid (MsgE w1 (w.heap.size + 2 ≤ ·) d ds m) := hid (MsgE.go (Keep.refl (fun _ => True) w1) (fun _ _ => trivial) (fun k hk => by simpa using hk) d _ _ hn)
  have hbz : Hid (Below w.heap.size w w1) := hid (bl_then (by exact blBy) hbx)
  clear hbx hn xs zs xb zb zk
  obtain ⟨fa, fc, ua, uc, rfl, -⟩ := msg_openD HN.out
  have xr := Br.cellF
  have yr := Br.frz
  have zr := Br.lt
  go_wp2
  exact bodyPost_ret (v := .agg #[.slice fa m.fs.length fc, .slice ua m.us.length uc]) (by simp [results, Tryz.results75, go_sem, xr, zr, yr]) rfl (NewE.mk [.slice fa m.fs.length fc, .slice ua m.us.length uc] (MsgE.go (f := (w.heap.size + 2 ≤ ·)) (by with_reducible repeat (first | exact Keep.refl _ _ | refine kpS ?_ (by first | (simp; done) | (simp; omega) | omega) | refine kpA ?_ _ | refine kpD ?_ | refine kpN ?_ _)) (fun _ h => h) (fun k hk => by omega) d _ _ HN.out) (by have := hbz.out; exact blBy))
theorem MgsR.go {w w' : World} {Z Z' f : Nat → Prop} {d : Nat} {v : Value} {xs : List CM} (h : MgsR w Z d v xs) (g : Keep f w w') (hf : ∀ k, Z k → f k) (hz : ∀ k, Z k → Z' k) : MgsR w' Z' d v xs := ((RowM.keep h g hf).weak hz).imp (fun cs m _ hm => MsgE.go g hf hz d cs m hm)
theorem VlsR.go {w w' : World} {Z Z' f : Nat → Prop} {d : Nat} {v : Value} {xs : List (CV CM)} (h : VlsR w Z d v xs) (g : Keep f w w') (hf : ∀ k, Z k → f k) (hz : ∀ k, Z k → Z' k) : VlsR w' Z' d v xs := ((RowM.keep h g hf).weak hz).imp (fun cs m _ hm => (famV d).go hm g hf hz)
theorem FlsR.go {w w' : World} {Z Z' f : Nat → Prop} {d : Nat} {v : Value} {xs : List (CF CM)} (h : FlsR w Z d v xs) (g : Keep f w w') (hf : ∀ k, Z k → f k) (hz : ∀ k, Z k → Z' k) : FlsR w' Z' d v xs := ((RowM.keep h g hf).weak hz).imp (fun cs m _ hm => (famF d).go hm g hf hz)
theorem EnsR.go {w w' : World} {Z Z' f : Nat → Prop} {v : Value} {xs : List CE} (h : EnsR w Z v xs) (g : Keep f w w') (hf : ∀ k, Z k → f k) (hz : ∀ k, Z k → Z' k) : EnsR w' Z' v xs := ((RowM.keep h g hf).weak hz).imp (fun cs m _ hm => famE.go hm g hf hz)
theorem cs1 {W : World} {b o p q : Nat} {v u : Value} (h : W.cell? ⟨b, o, none⟩ = some v) (hb : b ≠ p) : (W.setCell ⟨p, q, none⟩ u).cell? ⟨b, o, none⟩ = some v := by
  rw [World.cell?_setCell_other _ _ _ _ (fun e => hb (by injection e with e1; exact e1.symm))]
  exact h
theorem cs2 {W : World} {b o p q1 q2 : Nat} {v u1 u2 : Value} (h : W.cell? ⟨b, o, none⟩ = some v) (hb : b ≠ p) : ((W.setCell ⟨p, q1, none⟩ u1).setCell ⟨p, q2, none⟩ u2).cell? ⟨b, o, none⟩ = some v := cs1 (cs1 h hb) hb
theorem cs3 {W : World} {b o p q1 q2 q3 : Nat} {v u1 u2 u3 : Value} (h : W.cell? ⟨b, o, none⟩ = some v) (hb : b ≠ p) : (((W.setCell ⟨p, q1, none⟩ u1).setCell ⟨p, q2, none⟩ u2).setCell ⟨p, q3, none⟩ u3).cell? ⟨b, o, none⟩ = some v := cs1 (cs2 h hb) hb
theorem cf_enter {f : FuncId} {fn : Func} (hf : Tryz.prog.funcs[f]? = some fn) (hname : (fn.name == "runtime.NumGoroutine") = false) (hb : fn.body.isNone = false) (args : Array Value) (W : World) : (callFunc f args).run Tryz.prog W = .ok (.enter f args) W := by
  unfold callFunc
  simp only [Sem.run_bind, run_program, Result.andThen_ok, hf, hname, hb, Bool.false_eq_true, if_false, Sem.run_pure]
theorem cfM (args : Array Value) (W : World) : (callFunc 75 args).run Tryz.prog W = .ok (.enter 75 args) W := cf_enter Tryz.func75 (by kernel_rfl) (by kernel_rfl) args W
theorem cfV (args : Array Value) (W : World) : (callFunc 76 args).run Tryz.prog W = .ok (.enter 76 args) W := cf_enter Tryz.func76 (by kernel_rfl) (by kernel_rfl) args W
theorem cfF (args : Array Value) (W : World) : (callFunc 74 args).run Tryz.prog W = .ok (.enter 74 args) W := cf_enter Tryz.func74 (by kernel_rfl) (by kernel_rfl) args W
theorem cfE (args : Array Value) (W : World) : (callFunc 82 args).run Tryz.prog W = .ok (.enter 82 args) W := cf_enter Tryz.func82 (by kernel_rfl) (by kernel_rfl) args W
theorem newValT (d : Nat) (HC : CpAt d) (w : World) (Z : Nat → Prop) (cs : List Value) (x : CV CM) (h : ValE w Z (MsgE w Z d) cs x) (p4 p6 p7 p8 : Nat) (hB : CpB w p4 p6 p7) (hN : Blk w p8 79 #[.func (.func 75) #[] #[.pointer (some ⟨p4, 0, none⟩), .pointer (some ⟨p6, 0, none⟩), .pointer (some ⟨p7, 0, none⟩)]]) : Calls Tryz.prog 76 #[.agg cs.toArray, .pointer (some ⟨p8, 0, none⟩)] w (NewE (FmV d) w x) := by
  obtain ⟨ka, kc, va, vc, rfl, g, q, -, -, hu⟩ := val_open h
  have HBY : Hid (∀ W, Below w.heap.size w W → Calls Tryz.prog 77 #[.slice ka x.b.length kc] W fun e w' => ∃ a' c', e = .returned (.slice a' x.b.length c') ∧ ByE w' (W.heap.size ≤ ·) (.slice a' x.b.length c') x.b ∧ Below W.heap.size W w') := hid fun W hW => newBytesT W Z ka kc x.b (g.kept hW)
  have HMG : Hid (∀ W, Below w.heap.size w W → Calls Tryz.prog 78 #[.slice va x.ms.length vc, .func (.func 75) #[] #[.pointer (some ⟨p4, 0, none⟩), .pointer (some ⟨p6, 0, none⟩), .pointer (some ⟨p7, 0, none⟩)]] W (NewL 2 (FmM d) W x.ms)) := hid fun W hW => by
    have := turnedM W Z d d x.ms va vc (q.kept hW) 75 #[.pointer (some ⟨p4, 0, none⟩), .pointer (some ⟨p6, 0, none⟩), .pointer (some ⟨p7, 0, none⟩)] cfM id (fun W' hW' cs m _ hm => newMsgT d HC W' Z cs m hm p4 p6 p7 (hB.kept (below_trans hW hW')))
    rw [List.map_id] at this
    exact this
  have HU := hid hu
  have f3 : w.cell? ⟨p8, 0, none⟩ = some (.func (.func 75) #[] #[.pointer (some ⟨p4, 0, none⟩), .pointer (some ⟨p6, 0, none⟩), .pointer (some ⟨p7, 0, none⟩)]) := hN.cell 0 _ rfl
  have z8 := hN.lt
  clear h hB hN g q hu HC
  go_enter Tryz.func76, Tryz.ntmps76
  go_upto_region 1 with fail
  have Bx : Blk ((w.alloc (.cells #[.int .u64 x.n, .slice ka x.b.length kc, .slice va x.ms.length vc] 39)).alloc (.cells #[.int .u64 0, .slice none 0 0, .slice none 0 0] 39)) w.heap.size 39 #[.int .u64 x.n, .slice ka x.b.length kc, .slice va x.ms.length vc] := (Blk.new _ _ _).kept (below_alloc _)
  have Br : Blk ((w.alloc (.cells #[.int .u64 x.n, .slice ka x.b.length kc, .slice va x.ms.length vc] 39)).alloc (.cells #[.int .u64 0, .slice none 0 0, .slice none 0 0] 39)) (w.heap.size + 1) 39 #[.int .u64 0, .slice none 0 0, .slice none 0 0] := Blk.newAt (by simp)
  replace f3 := cell_below f3 (by exact blBy : Below w.heap.size w ((w.alloc (.cells #[.int .u64 x.n, .slice ka x.b.length kc, .slice va x.ms.length vc] 39)).alloc (.cells #[.int .u64 0, .slice none 0 0, .slice none 0 0] 39)))
  have HB : Hid (Below w.heap.size w ((w.alloc (.cells #[.int .u64 x.n, .slice ka x.b.length kc, .slice va x.ms.length vc] 39)).alloc (.cells #[.int .u64 0, .slice none 0 0, .slice none 0 0] 39))) := hid (by exact blBy)
  have hsz : w.heap.size + 2 ≤ ((w.alloc (.cells #[.int .u64 x.n, .slice ka x.b.length kc, .slice va x.ms.length vc] 39)).alloc (.cells #[.int .u64 0, .slice none 0 0, .slice none 0 0] 39)).heap.size := by simp
  generalize ((w.alloc (.cells #[.int .u64 x.n, .slice ka x.b.length kc, .slice va x.ms.length vc] 39)).alloc (.cells #[.int .u64 0, .slice none 0 0, .slice none 0 0] 39)) = W at *
  have f0 : W.cell? ⟨w.heap.size, 0, none⟩ = some (.int .u64 x.n) := Bx.cell 0 _ rfl
  have f1 : W.cell? ⟨w.heap.size, 1, none⟩ = some (.slice ka x.b.length kc) := Bx.cell 1 _ rfl
  have f2 : W.cell? ⟨w.heap.size, 2, none⟩ = some (.slice va x.ms.length vc) := Bx.cell 2 _ rfl
  have hp1 : w.heap.size ≠ w.heap.size + 1 := by omega
  have hp2 : p8 ≠ w.heap.size + 1 := by omega
  clear Bx z8
  have HS := hid hsz
  clear hsz
  have xr := Br.cellF
  have yr := Br.frz
  have zr := Br.lt
  go_region_held3 (fun W => W.cell? ⟨w.heap.size, 0, none⟩ = some (.int .u64 x.n) ∧ W.cell? ⟨w.heap.size, 1, none⟩ = some (.slice ka x.b.length kc) ∧ W.cell? ⟨w.heap.size, 2, none⟩ = some (.slice va x.ms.length vc) ∧ W.cell? ⟨p8, 0, none⟩ = some (.func (.func 75) #[] #[.pointer (some ⟨p4, 0, none⟩), .pointer (some ⟨p6, 0, none⟩), .pointer (some ⟨p7, 0, none⟩)])) (first | exact ⟨f0, f1, f2, f3⟩ | exact ⟨cs3 f0 hp1, cs3 f1 hp1, cs3 f2 hp1, cs3 f3 hp2⟩) (first | (go_at_call 77; refine (HBY.out _ (by have := HB.out; exact blBy)).mono ?_; rintro e w1 ⟨a1, c1, rfl, hn, hbx⟩; replace f0 := cell_below f0 (below_trans (by first | exact Below.refl _ _ | exact below_drew1 _ | exact below_drewN _ _) hbx); replace f1 := cell_below f1 (below_trans (by first | exact Below.refl _ _ | exact below_drew1 _ | exact below_drewN _ _) hbx); replace f2 := cell_below f2 (below_trans (by first | exact Below.refl _ _ | exact below_drew1 _ | exact below_drewN _ _) hbx); replace f3 := cell_below f3 (below_trans (by first | exact Below.refl _ _ | exact below_drew1 _ | exact below_drewN _ _) hbx); replace Br := Br.kept (below_trans (by first | exact Below.refl _ _ | exact below_drew1 _ | exact below_drewN _ _) hbx); replace xr := Br.cellF; replace yr := Br.frz; replace zr := Br.lt; replace HB := hid (below_trans HB.out (below_trans (by first | exact Below.refl _ _ | exact below_drew1 _ | exact below_drewN _ _) hbx)); have H1 : Hid (ByE w1 (w.heap.size + 2 ≤ ·) (.slice a1 x.b.length c1) x.b) := hid (hn.weak (fun k hk => Nat.le_trans HS.out hk)); (try replace H2 := hid (MgsR.kept H2.out (below_trans (by first | exact Below.refl _ _ | exact below_drew1 _ | exact below_drewN _ _) hbx))); replace HS := hid (Nat.le_trans HS.out (Below.size (below_trans (by first | exact Below.refl _ _ | exact below_drew1 _ | exact below_drewN _ _) hbx))); clear hn hbx) | (go_at_call 78; refine (HMG.out _ (by have := HB.out; exact blBy)).mono ?_; rintro e w2 ⟨a2, c2, rfl, hn, hbx⟩; replace f0 := cell_below f0 (below_trans (by first | exact Below.refl _ _ | exact below_drew1 _ | exact below_drewN _ _) hbx); replace f1 := cell_below f1 (below_trans (by first | exact Below.refl _ _ | exact below_drew1 _ | exact below_drewN _ _) hbx); replace f2 := cell_below f2 (below_trans (by first | exact Below.refl _ _ | exact below_drew1 _ | exact below_drewN _ _) hbx); replace f3 := cell_below f3 (below_trans (by first | exact Below.refl _ _ | exact below_drew1 _ | exact below_drewN _ _) hbx); replace Br := Br.kept (below_trans (by first | exact Below.refl _ _ | exact below_drew1 _ | exact below_drewN _ _) hbx); replace xr := Br.cellF; replace yr := Br.frz; replace zr := Br.lt; replace HB := hid (below_trans HB.out (below_trans (by first | exact Below.refl _ _ | exact below_drew1 _ | exact below_drewN _ _) hbx)); have H2 : Hid (MgsR w2 (w.heap.size + 2 ≤ ·) d (.slice a2 x.ms.length c2) x.ms) := hid ((hn.weak (fun k hk => Nat.le_trans HS.out hk)).imp (fun cs m _ hm => MsgE.go (Keep.refl (fun _ => True) w2) (fun _ _ => trivial) (fun k hk => Nat.le_trans HS.out hk) d _ _ hm)); (try replace H1 := hid (H1.out.kept (below_trans (by first | exact Below.refl _ _ | exact below_drew1 _ | exact below_drewN _ _) hbx))); replace HS := hid (Nat.le_trans HS.out (Below.size (below_trans (by first | exact Below.refl _ _ | exact below_drew1 _ | exact below_drewN _ _) hbx))); clear hn hbx))
  all_goals go_wp2
  all_goals exact bodyPost_ret (v := .agg #[.int .u64 x.n, .slice a1 x.b.length c1, .slice a2 x.ms.length c2]) (by simp [results, Tryz.results76, go_sem, xr, zr, yr]) rfl (NewE.mk [.int .u64 x.n, .slice a1 x.b.length c1, .slice a2 x.ms.length c2] ⟨_, _, rfl, (H1.out.keep (f := (w.heap.size + 2 ≤ ·)) (by with_reducible repeat (first | exact Keep.refl _ _ | refine kpS ?_ (by first | (simp; done) | (simp; omega) | omega) | refine kpA ?_ _ | refine kpD ?_ | refine kpN ?_ _)) (fun _ h => h)).weak (fun k hk => by omega), MgsR.go H2.out (f := (w.heap.size + 2 ≤ ·)) (by with_reducible repeat (first | exact Keep.refl _ _ | refine kpS ?_ (by first | (simp; done) | (simp; omega) | omega) | refine kpA ?_ _ | refine kpD ?_ | refine kpN ?_ _)) (fun _ h => h) (fun k hk => by omega), HU.out⟩ (by have := HB.out; exact blBy))
end Go.Proofs.YtkifjpaoncjokaaGreatDoor
namespace Go.Proofs.YtkifjpaoncjokaaGreatDoor
open Go.RowKit Go.Shelf
set_option maxRecDepth 1000000
attribute [local go_sem] Oper.semAt_some
set_option linter.unusedVariables false
set_option linter.unusedSimpArgs false
set_option maxHeartbeats 2000000
/-- What the walk answers. -/
def walkB (hold : TV → CM → Bool) (blw : TV → CF CM → TV) : Nat → TV → CM → Bool
  | 0, _, _ => true
  | d + 1, x, m => hold x m && m.fs.all (fun f => (allM f).all (walkB hold blw d (blw x f)))
/-- A type's four lists, as slices. -/
def ShT (x : TV) : Prop := ∃ a1 c1 a2 c2 a3 c3 a4 c4, x.f = .slice a1 x.t.fs.length c1 ∧ x.o = .slice a2 x.t.os.length c2 ∧ x.s = .slice a3 x.t.ss.length c3 ∧ x.r = .slice a4 x.t.rs.length c4
/-- What the walk is handed: two functions, and what they answer. -/
structure WkH (Z : Nat → Prop) (Ok : World → Prop) (In : TV → Prop) (Q : Nat → TV → CM → Prop) (hold : TV → CM → Bool) (blw : TV → CF CM → TV) (fh fb : FuncId) (ch cb : Array Value) : Prop where
  kept : ∀ {W W' : World}, Ok W → Below W.heap.size W W' → Ok W'
  sh : ∀ x, In x → ShT x
  eh : ∀ (args : Array Value) (W : World), (callFunc fh args).run Tryz.prog W = .ok (.enter fh args) W
  eb : ∀ (args : Array Value) (W : World), (callFunc fb args).run Tryz.prog W = .ok (.enter fb args) W
  h : ∀ (W : World) (x : TV) (d : Nat) (cs : List Value) (m : CM), Ok W → In x → Q d x m → MsgE W Z d cs m → Calls Tryz.prog fh (ch ++ #[.agg (cTV x).toArray, .agg cs.toArray]) W fun e w' => e = .returned (.bool (hold x m)) ∧ Below W.heap.size W w'
  b : ∀ (W : World) (x : TV) (d : Nat) (cs : List Value) (m : CM) (f : CF CM), Ok W → In x → Q (d + 1) x m → hold x m = true → f ∈ m.fs → FldE W Z (MsgE W Z d) cs f → Calls Tryz.prog fb (cb ++ #[.agg (cTV x).toArray, .agg cs.toArray]) W fun e w' => e = .returned (.agg (cTV (blw x f)).toArray) ∧ Below W.heap.size W w'
  i : ∀ (x : TV) (d : Nat) (m : CM) (f : CF CM), In x → Q (d + 1) x m → hold x m = true → f ∈ m.fs → In (blw x f)
  q : ∀ (x : TV) (d : Nat) (m : CM) (f : CF CM) (z : CM), In x → Q (d + 1) x m → hold x m = true → f ∈ m.fs → z ∈ allM f → Q d (blw x f) z
def WkAt (Z : Nat → Prop) (Ok : World → Prop) (In : TV → Prop) (Q : Nat → TV → CM → Prop) (hold : TV → CM → Bool) (blw : TV → CF CM → TV) (fh fb : FuncId) (ch cb : Array Value) (d : Nat) : Prop := ∀ (w : World) (x : TV) (cs : List Value) (m : CM), Ok w → In x → Q d x m → MsgE w Z d cs m → Calls Tryz.prog 89 #[.agg (cTV x).toArray, .agg cs.toArray, .func (.func fh) ch #[], .func (.func fb) cb #[]] w fun e w' => e = .returned (.bool (walkB hold blw d x m)) ∧ Below w.heap.size w w'
/-- What a range over a function leaves to be collected. -/
def mkD (D : Nat) : Deferred := { target := .collected D, args := #[] }
def Coll (W : World) (base : Nat) (Ds : List Nat) : Prop := Ds.Nodup ∧ ∀ D ∈ Ds, base ≤ D ∧ W.heap[D]? = some (.deferred (some []))
theorem Coll.nil (W : World) (base : Nat) : Coll W base [] := ⟨List.nodup_nil, fun D h => by cases h⟩
theorem Coll.lt {W : World} {base : Nat} {Ds : List Nat} (h : Coll W base Ds) {D : Nat} (hD : D ∈ Ds) : D < W.heap.size := (Array.getElem?_eq_some_iff.1 (h.2 D hD).2).1
theorem Coll.cons {W : World} {base : Nat} {Ds : List Nat} {D : Nat} (h : Coll W base Ds) (hb : base ≤ D) (hn : D ∉ Ds) (hD : W.heap[D]? = some (.deferred (some []))) : Coll W base (D :: Ds) :=
  ⟨List.nodup_cons.2 ⟨hn, h.1⟩, fun E hE => by rcases List.mem_cons.1 hE with rfl | hE; exact ⟨hb, hD⟩; exact h.2 E hE⟩
theorem Coll.keep {W W' : World} {base : Nat} {Ds : List Nat} (h : Coll W base Ds) (hk : ∀ D ∈ Ds, W'.heap[D]? = W.heap[D]?) : Coll W' base Ds := ⟨h.1, fun D hD => ⟨(h.2 D hD).1, (hk D hD).trans (h.2 D hD).2⟩⟩
theorem Coll.kept {W W' : World} {base : Nat} {Ds : List Nat} (h : Coll W base Ds) (hb : Below W.heap.size W W') : Coll W' base Ds := h.keep (fun D hD => hb.block D (h.lt hD))
/-- The same but for blocks from base on. -/
theorem putObj_below {W : World} {base D : Nat} (hb : base ≤ D) (hs : base ≤ W.heap.size) (o : Obj) : Below base W (W.putObj D o) := ⟨rfl, rfl, rfl, by simp [World.putObj], fun k hk => by simp [World.putObj, Array.getElem?_setIfInBounds]; omega⟩
theorem putObj_other {W : World} {k D : Nat} (h : k ≠ D) (o : Obj) : (W.putObj D o).heap[k]? = W.heap[k]? := by simp [World.putObj, Array.getElem?_setIfInBounds]; omega
theorem leave_all {fn : Func} {tmps : Array Value} {R : Ending → World → Prop} {base : Nat} (n : Nat) : ∀ (Ds : List Nat) (W : World), Coll W base Ds → base ≤ W.heap.size → (∀ W', Below base W W' → ∃ v, (results fn tmps).run Tryz.prog W' = .ok v W' ∧ R (.returned v) W') → LeavesInM Fence.wide n Tryz.prog fn tmps R (Ds.map mkD) .returning W
  | [], W, _, _, h => h W (Below.refl _ _)
  | D :: Ds, W, hc, hs, h => by
    have hD := hc.2 D List.mem_cons_self
    have hn := List.nodup_cons.1 hc.1
    refine ⟨by simp, .inl ⟨D, _, rfl, run_takeDeferred hD.2, ?_⟩⟩
    have hb := putObj_below (W := W) hD.1 hs (.deferred none)
    exact leave_all n Ds _ ⟨hn.2, fun E hE => ⟨(hc.2 E (List.mem_cons_of_mem _ hE)).1, (putObj_other (fun e => hn.1 (by rw [← e]; exact hE)) _).trans (hc.2 E (List.mem_cons_of_mem _ hE)).2⟩⟩ (Nat.le_trans hs hb.size) (fun W' hW' => h W' (hb.trans hW'))
theorem blk_own {W W' : World} {p : Nat} {t : TypeId} {cs : Array Value} {row : Option Nat} (h : Blk W p t cs) (hg : W.grownBy W' row) (hr : ∀ r, row = some r → ∃ o : Obj, W.heap[r]? = some o ∧ o.isCells = false) : Blk W' p t cs :=
  (hg.block p h.lt (fun e => by
    obtain ⟨o, ho, hc⟩ := hr p e.symm
    rw [show W.heap[p]? = _ from h] at ho
    cases ho
    cases hc)).trans h
theorem own_keep8 {β : Type} {w3 : World} {p : Nat} {t : TypeId} {cs : Array Value} (hp : p < w3.heap.size) : OwnFrom w3.heap.size (fun (_ : β) W => Keep (· ≠ p) w3 W ∧ Blk W p t cs) := fun s A B row hs hg hr =>
  ⟨⟨hg.os.trans hs.1.os, hg.tape.trans hs.1.tape, hg.output.trans hs.1.output, Nat.le_trans hs.1.size hg.size, fun k hk hf => (hg.block k (Nat.lt_of_lt_of_le hk hs.1.size) (fun e => by have := (hr k e.symm).1; omega)).trans (hs.1.block k hk hf)⟩, blk_own hs.2 hg (fun r e => (hr r e).2)⟩
theorem cfIter (args : Array Value) (W : World) : (callFunc 148 args).run Tryz.prog W = .ok (.enter 148 args) W := cf_enter Tryz.func148 (by kernel_rfl) (by kernel_rfl) args W
theorem msgsOfT (W : World) (f : CF CM) (a1 a2 : Option Addr) (c1 c2 : Nat) : Calls Tryz.prog 111 #[.agg #[.int .i64 f.num, .slice a1 f.ks.length c1, .slice a2 f.vs.length c2]] W fun e w' => e = .returned (.func (.func 148) #[] #[.pointer (some ⟨W.heap.size, 0, none⟩)]) ∧ w' = W.alloc (.cells #[.int .i64 f.num, .slice a1 f.ks.length c1, .slice a2 f.vs.length c2] 33) := by
  go_enter Tryz.func111, Tryz.ntmps111
  go_wp2
  go_ret
  exact ⟨rfl, rfl⟩
theorem walkT {Z : Nat → Prop} {Ok : World → Prop} {In : TV → Prop} {Q : Nat → TV → CM → Prop} {hold : TV → CM → Bool} {blw : TV → CF CM → TV} {fh fb : FuncId} {ch cb : Array Value} (H : WkH Z Ok In Q hold blw fh fb ch cb) : ∀ d, WkAt Z Ok In Q hold blw fh fb ch cb d
  | 0 => fun _ _ _ _ _ _ _ h => h.elim
  | d + 1 => fun w x cs m hok hin hQ h => by
    have IH := hid (walkT H d)
    obtain ⟨ka, kc, va, vc, rfl, g, q, l1, -⟩ := msg_open h
    obtain ⟨ta1, tc1, ta2, tc2, ta3, tc3, ta4, tc4, e1, e2, e3, e4⟩ := H.sh x hin
    have ec : cTV x = [.string (strOfNums x.t.name), .bool x.t.enum, .slice ta1 x.t.fs.length tc1, .slice ta2 x.t.os.length tc2, .slice ta3 x.t.ss.length tc3, .slice ta4 x.t.rs.length tc4] := by unfold cTV; rw [e1, e2, e3, e4]
    have HH := hid (fun W (hW : Below w.heap.size w W) => H.h W x (d + 1) _ m (H.kept hok hW) hin hQ (h.kept hW))
    have HBL := hid (fun (W : World) (cs : List Value) (f : CF CM) (hm : hold x m = true) (hf : f ∈ m.fs) (hW : Below w.heap.size w W) hx => H.b W x d cs m f (H.kept hok hW) hin hQ hm hf hx)
    have hcf1 := H.eh
    have hcf2 := H.eb
    have G := hid g
    have m1 : (m.fs.length : Int) ≤ 9223372036854775807 := by omega
    have HX : Hid (walkB hold blw (d + 1) x m = (hold x m && m.fs.all (fun f => (allM f).all (walkB hold blw d (blw x f))))) := hid rfl
    rw [ec] at HH HBL ⊢
    generalize walkB hold blw (d + 1) x m = res at *
    clear h g q e1 e2 e3 e4
    refine callsIn_wide (n := 3) |>.1 ?_
    refine callsIn_of_wp_marks Tryz.func89 rfl trivial ?_ rfl
    simp only [Tryz.ntmps89, List.size_toArray, List.length_cons, List.length_nil, Nat.reduceAdd, Nat.reduceSub, Array.replicate_succ, Array.replicate_zero, List.push_toArray, List.append_toArray, List.nil_append, List.cons_append]
    gi_wp2_with fail
    refine ⟨trivial, (callsIn_wide.2 (HH.out _ (by exact blBy))).mono ?_⟩
    rintro e w1 ⟨rfl, hbx⟩
    have B4 : Blk w1 w.heap.size 63 #[.string (strOfNums x.t.name), .bool x.t.enum, .slice ta1 x.t.fs.length tc1, .slice ta2 x.t.os.length tc2, .slice ta3 x.t.ss.length tc3, .slice ta4 x.t.rs.length tc4] := (((((Blk.new _ _ _).kept (below_alloc _)).kept (below_alloc _)).kept (below_alloc _)).kept (below_alloc _)).kept hbx
    have B5 : Blk w1 (w.heap.size + 1) 29 #[.slice ka m.fs.length kc, .slice va m.us.length vc] := ((((Blk.newAt (by simp)).kept (below_alloc _)).kept (below_alloc _)).kept (below_alloc _)).kept hbx
    have B6 : Blk w1 (w.heap.size + 1 + 1) 123 #[.func (.func fh) ch #[]] := (((Blk.newAt (by simp)).kept (below_alloc _)).kept (below_alloc _)).kept hbx
    have B7 : Blk w1 (w.heap.size + 1 + 1 + 1) 152 #[.func (.func fb) cb #[]] := ((Blk.newAt (by simp)).kept (below_alloc _)).kept hbx
    have B8 : Blk w1 (w.heap.size + 1 + 1 + 1 + 1) 4 #[.bool false] := (Blk.newAt (by simp)).kept hbx
    have hbz : Hid (Below w.heap.size w w1) := hid (bl_then (by exact blBy) hbx)
    have hs1 : w.heap.size + 5 ≤ w1.heap.size := by have := hbx.size; simpa using this
    clear hbx HH
    have x8 := B8.cellF
    have y8 := B8.frz
    have z8 := B8.lt
    have HIN := hid (fun f => H.i x d m f hin hQ)
    have HQS := hid (fun f z => H.q x d m f z hin hQ)
    cases hq : hold x m with
    | false =>
      rw [hq, Bool.false_and] at HX
      gi_wp2
      exact ⟨.bool false, by simp [results, Tryz.results89, go_sem, x8, y8, z8], by rw [HX.out], by have := hbz.out; exact blBy⟩
    | true =>
      rw [hq, Bool.true_and] at HX
      have x5 := B5.cellF
      have z5 := B5.lt
      gi_wp2
      refine wpIn_loop (fun a W => ∃ (j : Nat) (Ds : List Nat) (u10 u11 u12 u22 u23 u24 u25 u26 u27 u28 u29 u30 u31 u32 u33 u34 u35 u36 u37 u38 : Value), a = { tmps := #[.agg #[.string (strOfNums x.t.name), .bool x.t.enum, .slice ta1 x.t.fs.length tc1, .slice ta2 x.t.os.length tc2, .slice ta3 x.t.ss.length tc3, .slice ta4 x.t.rs.length tc4], .agg #[.slice ka m.fs.length kc, .slice va m.us.length vc], .func (.func fh) ch #[], .func (.func fb) cb #[], .pointer (some ⟨w.heap.size, 0, none⟩), .pointer (some ⟨w.heap.size + 1, 0, none⟩), .pointer (some ⟨w.heap.size + 1 + 1, 0, none⟩), .pointer (some ⟨w.heap.size + 1 + 1 + 1, 0, none⟩), .pointer (some ⟨w.heap.size + 1 + 1 + 1 + 1, 0, none⟩), undef, u10, u11, u12, .func (.func fh) ch #[], .agg #[.string (strOfNums x.t.name), .bool x.t.enum, .slice ta1 x.t.fs.length tc1, .slice ta2 x.t.os.length tc2, .slice ta3 x.t.ss.length tc3, .slice ta4 x.t.rs.length tc4], .agg #[.slice ka m.fs.length kc, .slice va m.us.length vc], .bool true, .bool false, .pointer (some ⟨w.heap.size + 1, 0, none⟩), .slice ka m.fs.length kc, .int .i64 (m.fs.length : Int), .int .i64 (j : Int), u22, u23, u24, u25, u26, u27, u28, u29, u30, u31, u32, u33, u34, u35, u36, u37, u38], defers := Ds.map mkD } ∧ j ≤ m.fs.length ∧ Hid (res = (m.fs.drop j).all (fun f => (allM f).all (walkB hold blw d (blw x f)))) ∧ Hid (Coll W w1.heap.size Ds) ∧ Hid (Below w1.heap.size w1 W)) (fun a _ => m.fs.length - (intOf (a.tmps.getD 21 undef)).toNat) ⟨0, [], undef, undef, undef, undef, undef, undef, undef, undef, undef, undef, undef, undef, undef, undef, undef, undef, undef, undef, undef, undef, rfl, by omega, HX, hid (Coll.nil _ _), hid (Below.refl _ _)⟩ ?_
      rintro a W ⟨j, Ds, u10, u11, u12, u22, u23, u24, u25, u26, u27, u28, u29, u30, u31, u32, u33, u34, u35, u36, u37, u38, rfl, hj, HA, HC, hb⟩
      have B4' := B4.kept hb.out
      have B6' := B6.kept hb.out
      have B7' := B7.kept hb.out
      have B8' := B8.kept hb.out
      have x4 := B4'.cellF
      have z4 := B4'.lt
      have x6 := B6'.cellF
      have z6 := B6'.lt
      have x7 := B7'.cellF
      have z7 := B7'.lt
      clear x5 z5 x8 y8 z8
      by_cases hlt : j < m.fs.length
      · have k2 : (j : Int) < (m.fs.length : Int) := by omega
        obtain ⟨b1, o1, pa, pc, qa, qc, rfl, -, hb1, c0, c1, c2, he⟩ := fls_at (G.out.kept (below_trans hbz.out hb.out)) hlt
        have HD : Hid ((m.fs.drop j).all (fun f => (allM f).all (walkB hold blw d (blw x f))) = ((allM m.fs[j]).all (walkB hold blw d (blw x m.fs[j])) && (m.fs.drop (j + 1)).all (fun f => (allM f).all (walkB hold blw d (blw x f))))) := hid (by rw [List.drop_eq_getElem_cons hlt, List.all_cons])
        have HME := List.getElem_mem hlt
        have HIF := hid (HIN.out _ hq HME)
        have HQF := hid (fun z => HQS.out _ z hq HME)
        have HBF := hid (fun W' (hW' : Below w.heap.size w W') => HBL.out W' [.int .i64 m.fs[j].num, .slice pa m.fs[j].ks.length pc, .slice qa m.fs[j].vs.length qc] m.fs[j] hq HME hW')
        have HFE := hid he
        clear HME he
        generalize m.fs[j] = f at *
        generalize blw x f = y at *
        obtain ⟨sa1, sc1, sa2, sc2, sa3, sc3, sa4, sc4, e1, e2, e3, e4⟩ := H.sh y HIF.out
        have ecy : cTV y = [.string (strOfNums y.t.name), .bool y.t.enum, .slice sa1 y.t.fs.length sc1, .slice sa2 y.t.os.length sc2, .slice sa3 y.t.ss.length sc3, .slice sa4 y.t.rs.length sc4] := by unfold cTV; rw [e1, e2, e3, e4]
        rw [ecy] at HBF
        clear e1 e2 e3 e4
        have hbw : Hid (Below w.heap.size w W) := hid (below_trans hbz.out hb.out)
        gi_wp2_with fail
        refine ⟨trivial, (callsIn_wide.2 (HBF.out _ (by have := hbw.out; exact blBy) (HFE.out.kept (by exact blBy)))).mono ?_⟩
        rintro e w2 ⟨rfl, hbx⟩
        have B10 : Blk w2 W.heap.size 33 #[.int .i64 f.num, .slice pa f.ks.length pc, .slice qa f.vs.length qc] := (Blk.new _ _ _).kept hbx
        have hb2 : Hid (Below W.heap.size W w2) := hid (below_trans (below_alloc _) hbx)
        clear hbx HBF
        have x10 := B10.cellF
        have z10 := B10.lt
        gi_wp2_with fail
        refine ⟨trivial, (callsIn_wide.2 (msgsOfT _ f pa qa pc qc)).mono ?_⟩
        rintro e w3 ⟨rfl, hw3⟩
        have B11 : Blk w3 w2.heap.size 63 #[.string (strOfNums y.t.name), .bool y.t.enum, .slice sa1 y.t.fs.length sc1, .slice sa2 y.t.os.length sc2, .slice sa3 y.t.ss.length sc3, .slice sa4 y.t.rs.length sc4] := by rw [hw3]; exact (Blk.new _ _ _).kept (below_alloc _)
        have Bq : Blk w3 (w2.heap.size + 1) 33 #[.int .i64 f.num, .slice pa f.ks.length pc, .slice qa f.vs.length qc] := by rw [hw3]; exact Blk.newAt (by simp)
        have hb3 : Hid (Below W.heap.size W w3) := hid (by rw [hw3]; have := hb2.out; exact blBy)
        have hsq : w2.heap.size + 2 ≤ w3.heap.size := by rw [hw3]; simp
        have esq : (w2.alloc (.cells #[.string (strOfNums y.t.name), .bool y.t.enum, .slice sa1 y.t.fs.length sc1, .slice sa2 y.t.os.length sc2, .slice sa3 y.t.ss.length sc3, .slice sa4 y.t.rs.length sc4] 63)).heap.size = w2.heap.size + 1 := by simp
        rw [esq]
        clear hw3 esq x10 z10 B10 c0 c1 c2 hb1 x4 z4 x6 z6 x7 z7
        obtain ⟨_, _, _, _, ef, g1, g2, -⟩ := fld_open (HFE.out.kept hb3.out)
        simp only [List.cons.injEq, Value.slice.injEq, true_and, and_true] at ef
        obtain ⟨⟨rfl, rfl⟩, rfl, rfl⟩ := ef
        have B6q := B6'.kept hb3.out
        have B7q := B7'.kept hb3.out
        have B8q := B8'.kept hb3.out
        have hbq : Hid (Below w.heap.size w w3) := hid (below_trans hbw.out hb3.out)
        have hbq1 : Hid (Below w1.heap.size w1 w3) := hid (below_trans hb.out hb3.out)
        have HCq := hid (HC.out.kept hb3.out)
        have hs2 : W.heap.size ≤ w2.heap.size := hb2.out.size
        have hsW := hb.out.size
        clear B4' B6' B7' B8' hb2 HFE
        gi_wp2_with fail
        refine wpIn_rangeFunc_ownH rfl (by omega) (gf := 148) (lb := #[.pointer (some ⟨w2.heap.size + 1, 0, none⟩)]) rfl trivial cfIter (msgsOf_in w3 Z d (3 - 1) (by omega) (w2.heap.size + 1) f pa qa pc qc Bq g1 g2) belowK_t (belowK_b (Nat.le_refl _)) (Below.refl _ _) (fun _ => rfl)
          (fun pre W' => (∀ z ∈ pre, walkB hold blw d y z.1.2 = true) ∧ Below w3.heap.size w3 W')
          (fun c pre W' => (c = .ret ∧ ∃ z ∈ pre, walkB hold blw d y z.1.2 = false) ∧ (Keep (· ≠ w.heap.size + 1 + 1 + 1 + 1) w3 W' ∧ Blk W' (w.heap.size + 1 + 1 + 1 + 1) 4 #[.bool false]))
          (OwnFrom.and (ownFrom_pure _ _) (ownFrom_below (Nat.le_refl _) (Nat.le_refl _)))
          (fun c => OwnFrom.and (ownFrom_pure _ _) (own_keep8 (by omega)))
          ⟨(fun z hz => by cases hz), Below.refl _ _⟩
          (fun z a' W' => ∃ Bx, w3.heap.size ≤ Bx ∧ Blk W' Bx 29 z.1.1.toArray ∧ a' = { tmps := #[.agg #[.string (strOfNums x.t.name), .bool x.t.enum, .slice ta1 x.t.fs.length tc1, .slice ta2 x.t.os.length tc2, .slice ta3 x.t.ss.length tc3, .slice ta4 x.t.rs.length tc4], .agg #[.slice (some ⟨b1, o1, none⟩) m.fs.length kc, .slice va m.us.length vc], .func (.func fh) ch #[], .func (.func fb) cb #[], .pointer (some ⟨w.heap.size, 0, none⟩), .pointer (some ⟨w.heap.size + 1, 0, none⟩), .pointer (some ⟨w.heap.size + 1 + 1, 0, none⟩), .pointer (some ⟨w.heap.size + 1 + 1 + 1, 0, none⟩), .pointer (some ⟨w.heap.size + 1 + 1 + 1 + 1, 0, none⟩), undef, .pointer (some ⟨W.heap.size, 0, none⟩), .pointer (some ⟨w2.heap.size, 0, none⟩), .pointer (some ⟨Bx, 0, none⟩), .func (.func fh) ch #[], .agg #[.string (strOfNums x.t.name), .bool x.t.enum, .slice ta1 x.t.fs.length tc1, .slice ta2 x.t.os.length tc2, .slice ta3 x.t.ss.length tc3, .slice ta4 x.t.rs.length tc4], .agg #[.slice (some ⟨b1, o1, none⟩) m.fs.length kc, .slice va m.us.length vc], .bool true, .bool false, .pointer (some ⟨w.heap.size + 1, 0, none⟩), .slice (some ⟨b1, o1, none⟩) m.fs.length kc, .int .i64 (m.fs.length : Int), .int .i64 (j : Int), .bool true, .pointer (some ⟨b1, o1 + j * 3, none⟩), .agg #[.int .i64 f.num, .slice pa f.ks.length pc, .slice qa f.vs.length qc], .func (.func fb) cb #[], .agg #[.string (strOfNums x.t.name), .bool x.t.enum, .slice ta1 x.t.fs.length tc1, .slice ta2 x.t.os.length tc2, .slice ta3 x.t.ss.length tc3, .slice ta4 x.t.rs.length tc4], .agg #[.int .i64 f.num, .slice pa f.ks.length pc, .slice qa f.vs.length qc], .agg #[.string (strOfNums y.t.name), .bool y.t.enum, .slice sa1 y.t.fs.length sc1, .slice sa2 y.t.os.length sc2, .slice sa3 y.t.ss.length sc3, .slice sa4 y.t.rs.length sc4], .agg #[.int .i64 f.num, .slice pa f.ks.length pc, .slice qa f.vs.length qc], .func (.func 148) #[] #[.pointer (some ⟨w2.heap.size + 1, 0, none⟩)], .agg z.1.1.toArray, u32, u33, u34, u35, u36, u37, u38], defers := [] })
          (fun z a' _ X Y row hs hg hr => by obtain ⟨Bx, h1, h2, h3⟩ := hs; exact ⟨Bx, h1, blk_own h2 hg (fun r e => (hr r e).2), h3⟩)
          ?assign ?body ?done ?stop
        case assign =>
          rintro l pre z W' K ⟨hall, hB1⟩ hK
          obtain ⟨⟨zc, zm⟩, hz⟩ := z
          have hz' : MsgE w3 Z d zc zm := hz.1
          obtain ⟨fa, fc, ua, uc, e0, -⟩ := msg_openD hz'
          subst e0
          dsimp only [encM] at hK ⊢
          gi_wp2
          exact hK _ _ ((KeepsOthers.alloc _ _).from _) ((Below.refl _ W').alloc hB1.size _) ⟨hall, hB1.alloc hB1.size _⟩ ⟨W'.heap.size, hB1.size, Blk.new _ _ _, rfl⟩
        case body =>
          rintro l pre z a' W' hl ⟨r, hr⟩ ⟨hall, hB1⟩ ⟨Bx, hBx, bX, rfl⟩ hlt2
          obtain ⟨⟨zc, zm⟩, hz⟩ := z
          have hz' : MsgE w3 Z d zc zm := hz.1
          have HZ := hid hz'
          have HQZ := hid (HQF.out zm hz.2)
          obtain ⟨fa, fc, ua, uc, e0, -⟩ := msg_openD hz'
          subst e0
          dsimp only at bX
          have C6 := B6q.kept hB1
          have C7 := B7q.kept hB1
          have C8 := B8q.kept hB1
          have C11 := B11.kept hB1
          have x6 := C6.cellF
          have z6 := C6.lt
          have x7 := C7.cellF
          have z7 := C7.lt
          have x11 := C11.cellF
          have z11 := C11.lt
          have xX := bX.cellF
          have zX := bX.lt
          have HIW := hid (IH.out W' y [.slice fa zm.fs.length fc, .slice ua zm.us.length uc] zm (H.kept hok (below_trans hbq.out hB1)) HIF.out HQZ.out (HZ.out.kept hB1))
          rw [ecy] at HIW
          have HB1 := hid hB1
          have HALL := hid hall
          clear hB1 hall hlt2
          gi_wp2_with fail
          refine ⟨trivial, (CallsIn.inRound l (callsIn_wide.2 HIW.out)).mono ?_⟩
          rintro e W4 ⟨rfl, hb4⟩
          have HB4 := hid hb4
          have D8 := C8.kept hb4
          have x8 := D8.cellF
          have y8 := D8.frz
          have z8 := D8.lt
          have HKF : Hid (KeepsFrom w3.heap.size W' W4) := hid ⟨hb4.size, fun k o _ hk _ => (hb4.block k (Array.getElem?_eq_some_iff.1 hk).1).trans hk⟩
          have hsB := HB1.out.size
          clear hb4 HIW x6 z6 x7 z7 x11 z11 xX zX
          cases hr2 : walkB hold blw d y zm with
          | true =>
            have HR2 := hid hr2
            gi_wp2
            refine ⟨HKF.out, HB4.out.mono hsB, ?_, HB1.out.trans (HB4.out.mono hsB)⟩
            intro z' hz2
            rcases List.mem_append.1 hz2 with h | h
            · exact HALL.out z' h
            · rw [List.mem_singleton.1 h]; exact HR2.out
          | false =>
            have HR2 := hid hr2
            gi_wp2
            refine ⟨HKF.out.trans ((KeepsOthers.setCell _ _ _).from _), ⟨rfl, _, List.mem_append_right _ (List.mem_singleton.2 rfl), HR2.out⟩, ?_, (D8.set 0 (.bool false)).is rfl⟩
            exact ((Keep.ofBelow HB1.out).trans (Keep.ofBelow HB4.out)).trans (Keep.setCell _ _ _ (by simp))
        case done =>
          rintro D xs W' hD hS ⟨hall, hB1⟩ hK
          have HB1 := hid hB1
          have HK := hid hK
          have HR : Hid (res = (m.fs.drop (j + 1)).all (fun f => (allM f).all (walkB hold blw d (blw x f)))) := hid (by
            rw [HA.out, HD.out, ← hS]
            rw [show ((xs.map fun z => z.1.2).all (walkB hold blw d y)) = true from by
              rw [List.all_map, List.all_eq_true]
              exact fun z hz => hall z hz]
            rfl)
          have hsw := hB1.size
          have HCd : Hid (Coll W' w1.heap.size (D :: Ds)) := hid ((HCq.out.kept hB1).cons (by omega) (fun h => by have := HCq.out.lt h; omega) hK)
          have hbd : Hid (Below w1.heap.size w1 W') := hid (hbq1.out.trans (hB1.mono hbq1.out.size))
          clear hB1 hall hS hK
          gi_wp2
          exact ⟨⟨j + 1, D :: Ds, _, _, _, _, _, _, _, _, _, _, _, _, _, _, _, _, _, _, _, _, rfl, by omega, HR, HCd, hbd⟩, by simp [intOf]; omega⟩
        case stop =>
          rintro D c pre W' hD hSp ⟨⟨rfl, hex⟩, hKp, hB8⟩ hK
          have HKP := hid hKp
          have HB8 := hid hB8
          have HK := hid hK
          have HR : Hid (res = false) := hid (by
            rw [HA.out, HD.out]
            rw [show ((allM f).all (walkB hold blw d y)) = false from by
              rw [List.all_eq_false]
              obtain ⟨z, hz, hw⟩ := hex
              exact ⟨z.1.2, hSp.subset (List.mem_map.2 ⟨z, hz, rfl⟩), by rw [hw]; simp⟩]
            rfl)
          have hsw := hKp.size
          have HCs : Hid (Coll W' w1.heap.size (D :: Ds)) := hid ((HCq.out.keep (fun E hE => hKp.block E (HCq.out.lt hE) (by have := (HCq.out.2 E hE).1; omega))).cons (by omega) (fun h => by have := HCq.out.lt h; omega) hK)
          have hbs : Hid (Below w.heap.size w W') := hid (hbq.out.trans (hKp.below hbq.out.size (fun k hk => by omega)))
          clear hex hKp hB8 hK
          gi_wp2
          refine leave_all (base := w1.heap.size) 3 (D :: Ds) _ HCs.out (by omega) (fun W'' hW'' => ?_)
          have B9 : Blk W'' (w.heap.size + 1 + 1 + 1 + 1) 4 #[.bool false] := (hW''.block _ (by omega)).trans HB8.out
          have x9 := B9.cellF
          have y9 := B9.frz
          have z9 := B9.lt
          exact ⟨.bool false, by simp [results, Tryz.results89, go_sem, x9, y9, z9], by rw [HR.out], hbs.out.trans (hW''.mono (by omega))⟩
      · have k2 : ¬ (j : Int) < (m.fs.length : Int) := by omega
        have HE : Hid (res = true) := hid (by rw [HA.out, List.drop_of_length_le (by omega)]; rfl)
        have x8 := B8'.cellF
        have y8 := B8'.frz
        have z8 := B8'.lt
        have HB8 := hid (B8'.set 0 (.bool true))
        have hbw : Hid (Below w.heap.size w W) := hid (below_trans hbz.out hb.out)
        have hsW := hb.out.size
        gi_wp2
        refine leave_all (base := w1.heap.size) 3 Ds _ (HC.out.keep (fun D hD => Below.heap_setCell _ _ _ _ (by have := (HC.out.2 D hD).1; simp; omega))) (by simpa [World.setCell] using hsW) (fun W' hW' => ?_)
        have B9 : Blk W' (w.heap.size + 1 + 1 + 1 + 1) 4 #[.bool true] := (hW'.block _ (by omega)).trans HB8.out
        have x9 := B9.cellF
        have y9 := B9.frz
        have z9 := B9.lt
        exact ⟨.bool true, by simp [results, Tryz.results89, go_sem, x9, y9, z9], by rw [HE.out], Below.trans (by have := hbw.out; exact blBy) (hW'.mono (by omega))⟩
end Go.Proofs.YtkifjpaoncjokaaGreatDoor
namespace Go.Proofs.YtkifjpaoncjokaaGreatDoor
open Go.RowKit
set_option maxRecDepth 1000000
set_option linter.unusedVariables false
set_option linter.unusedSimpArgs false
set_option maxHeartbeats 1000000
theorem shT_of {w : World} {x : TV} (h : TyR w x) : ShT x := by
  obtain ⟨a1, c1, e1, -⟩ := rowS_sl h.f
  obtain ⟨a2, c2, e2, -⟩ := rowS_sl h.o
  obtain ⟨a3, c3, e3, -⟩ := rowS_sl h.s
  obtain ⟨a4, c4, e4, -⟩ := rowS_sl h.r
  exact ⟨a1, c1, a2, c2, a3, c3, a4, c4, e1, e2, e3, e4⟩
/-- A good table's fields rise, of an enum too. -/
theorem good_rise {l : List TV} (hg : goodB l = true) {x : TV} (hx : x ∈ l) : Rise x.t.fs ∧ x.t.fs.length ≤ 128 := by
  obtain ⟨k, hk, rfl⟩ := List.mem_iff_getElem.1 hx
  cases he : l[k].t.enum with
  | false => exact good_msg hg hk he
  | true =>
    have h := good_at hg hk
    unfold stepB typB at h
    rw [he] at h
    simp only [Bool.and_eq_true, if_true, decide_eq_true_eq] at h
    have h3 : l[k].t.fs.length = 0 := by have := h.2.2.2.1; omega
    rw [List.eq_nil_of_length_eq_zero h3]
    exact ⟨fun i j _ hj => by simp at hj, by simp⟩
/-- A field's Ref names a type, whatever its kind. -/
theorem good_refs {l : List TV} (hg : goodB l = true) {x : TV} (hx : x ∈ l) {o : FT} (ho : o ∈ x.t.fs) : 0 ≤ o.ref ∧ o.ref.toNat < l.length := by
  obtain ⟨k, hk, rfl⟩ := List.mem_iff_getElem.1 hx
  have h := good_at hg hk
  unfold stepB typB at h
  simp only [Bool.and_eq_true] at h
  have h2 := h.2.2.2
  split at h2
  · rw [Bool.and_eq_true, decide_eq_true_eq] at h2
    have h3 : l[k].t.fs.length = 0 := by omega
    rw [List.eq_nil_of_length_eq_zero h3] at ho
    exact absurd ho (by simp)
  · unfold msgB at h2
    simp only [Bool.and_eq_true] at h2
    have h3 := List.all_eq_true.1 h2.2.2.1 o ho
    unfold fldB at h3
    simp only [Bool.and_eq_true] at h3
    have h4 := h3.2.1
    unfold refB at h4
    split at h4
    · split at h4
      · rename_i y hy
        rw [Bool.and_eq_true, decide_eq_true_eq] at h4
        exact ⟨h4.1, (List.getElem?_eq_some_iff.1 hy).1⟩
      · simp at h4
    · rw [decide_eq_true_eq] at h4
      rw [h4]
      exact ⟨by omega, by simp; omega⟩
theorem belowT (w : World) (l : List TV) (ta : Option Addr) (tc : Nat) (h : TbR w (.slice ta l.length tc) l) (hg : goodB l = true) (x : TV) (hx : x ∈ l) (Z : Nat → Prop) (d : Nat) (cs : List Value) (f : CF CM) (hf : FldE w Z (MsgE w Z d) cs f) (o : FT) (ho : o ∈ x.t.fs) (hn : o.num = f.num) (y : TV) (hy : l[o.ref.toNat]? = some y) : Calls Tryz.prog 91 #[.agg #[.slice ta l.length tc], .agg (cTV x).toArray, .agg cs.toArray] w fun e w' => e = .returned (.agg (cTV y).toArray) ∧ Below w.heap.size w w' := by
  obtain ⟨ka, kc, va, vc, rfl, -⟩ := fld_open hf
  have hyl : o.ref.toNat < l.length := (List.getElem?_eq_some_iff.1 hy).1
  have hye : l[o.ref.toNat] = y := (List.getElem?_eq_some_iff.1 hy).2
  have TX := h.ty x hx
  have TYY := h.ty y (by rw [← hye]; exact List.getElem_mem hyl)
  obtain ⟨ta1, tc1, ta2, tc2, ta3, tc3, ta4, tc4, e1, e2, e3, e4⟩ := shT_of TX
  obtain ⟨sa1, sc1, sa2, sc2, sa3, sc3, sa4, sc4, g1, g2, g3, g4⟩ := shT_of TYY
  have ecx : cTV x = [.string (strOfNums x.t.name), .bool x.t.enum, .slice ta1 x.t.fs.length tc1, .slice ta2 x.t.os.length tc2, .slice ta3 x.t.ss.length tc3, .slice ta4 x.t.rs.length tc4] := by unfold cTV; rw [e1, e2, e3, e4]
  have ecy : cTV y = [.string (strOfNums y.t.name), .bool y.t.enum, .slice sa1 y.t.fs.length sc1, .slice sa2 y.t.os.length sc2, .slice sa3 y.t.ss.length sc3, .slice sa4 y.t.rs.length sc4] := by unfold cTV; rw [g1, g2, g3, g4]
  obtain ⟨k, hk, hke⟩ := List.mem_iff_getElem.1 ho
  have HFO := hid fun W (hW : Below w.heap.size w W) => fieldOfOk x.t.fs f.num W ta1 tc1 (by rw [← e1]; exact (TX.kept hW).f) (good_rise hg hx).1 (good_rise hg hx).2 k hk (by rw [hke]; exact hn)
  rw [hke] at HFO
  obtain ⟨r0, r1⟩ := good_refs hg hx ho
  obtain ⟨j, hj⟩ := Int.eq_ofNat_of_zero_le r0
  have ht : o.ref.toNat = j := by omega
  rw [ht] at hy
  clear hye hyl
  have hyl : j < l.length := (List.getElem?_eq_some_iff.1 hy).1
  have hye : l[j] = y := (List.getElem?_eq_some_iff.1 hy).2
  obtain ⟨tb, tof, rfl, hbl, c0, c1, c2, c3, c4, c5⟩ := row6 h.row hyl
  rw [hye] at c0 c1 c2 c3 c4 c5
  rw [g1] at c2
  rw [g2] at c3
  rw [g3] at c4
  rw [g4] at c5
  rw [hj] at HFO
  rw [ecx, ecy]
  have k1 : (j : Int) < (l.length : Int) := by omega
  obtain ⟨_, _, el, l63⟩ := rowS_sl h.row
  clear el
  have m1 : (l.length : Int) ≤ 9223372036854775807 := by omega
  clear h hf TX TYY e1 e2 e3 e4 g1 g2 g3 g4 ecx ecy hke ho hy hye r0 r1 hx hg hn ht hj
  generalize o.ref = rf at *
  go_enter Tryz.func91, Tryz.ntmps91
  go_wp2_with fail
  refine (HFO.out _ (by exact blBy)).mono ?_
  rintro e w1 ⟨rfl, hb1⟩
  have B3 : Blk w1 w.heap.size 122 #[.slice (some ⟨tb, tof, none⟩) l.length tc] := ((((Blk.new _ _ _).kept (below_alloc _)).kept (below_alloc _)).kept (below_alloc _)).kept hb1
  have Br : Blk w1 (w.heap.size + 1 + 1 + 1) 63 #[.string ⟨#[]⟩, .bool false, .slice none 0 0, .slice none 0 0, .slice none 0 0, .slice none 0 0] := (Blk.newAt (by simp)).kept hb1
  have hbz : Hid (Below w.heap.size w w1) := hid (bl_then (by exact blBy) hb1)
  have hs1 : w.heap.size + 4 ≤ w1.heap.size := by have := hb1.size; simpa using this
  clear hb1 HFO
  replace c0 := cell_below c0 hbz.out
  replace c1 := cell_below c1 hbz.out
  replace c2 := cell_below c2 hbz.out
  replace c3 := cell_below c3 hbz.out
  replace c4 := cell_below c4 hbz.out
  replace c5 := cell_below c5 hbz.out
  have hne : tb ≠ w.heap.size + 1 + 1 + 1 := by omega
  have hbl2 : tb < w1.heap.size := World.block_lt_of_cell? _ _ c0
  have x3 := B3.cellF
  have z3 := B3.lt
  have xr := Br.cellF
  have yr := Br.frz
  have zr := Br.lt
  clear hbl
  go_wp2
  exact bodyPost_ret (v := .agg #[.string (strOfNums y.t.name), .bool y.t.enum, .slice sa1 y.t.fs.length sc1, .slice sa2 y.t.os.length sc2, .slice sa3 y.t.ss.length sc3, .slice sa4 y.t.rs.length sc4]) (by simp [results, Tryz.results91, go_sem, xr, zr, yr]) rfl ⟨rfl, by have := hbz.out; exact blBy⟩
end Go.Proofs.YtkifjpaoncjokaaGreatDoor
