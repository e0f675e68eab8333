/-
  opt: the places that steps and rows name, one by one.
  opt: a map of places; the iterator named, as it is told.
  opt: places renumbered, as lists of cells.
  opt: renumber.
  opt: renumber.
-/
import Derived.Test.YtliohglpbmpbhaaCKK
import Derived.RangeFuncKeeps
import Derived.RangeFuncNested
import Derived.RangeFuncBound
import Derived.RangeFuncCalls
import Derived.RangeFuncLeaves
import Derived.Shelf.Abstract
import Derived.Shelf.RegionOpen
import Derived.WalkKit
import Derived.OwnWalkIn
import Derived.LoopIn
import Derived.Maps.OwnSet
import Derived.Maps.Keyed
namespace Go.Proofs.Ytliohglpbmpbhaa
open Go.RowKit Go.Shelf
set_option maxRecDepth 1000000
attribute [local go_sem] Oper.semAt_some
set_option linter.unusedVariables false
set_option linter.unusedSimpArgs false
set_option maxHeartbeats 2000000
theorem kpBl {f : Nat → Prop} {w W W' : World} (h : Keep f w W) (g : Below W.heap.size W W') : Keep f w W' := h.trans (Keep.ofBelow g)
/-- An address behind a slice's. -/
def adr (la : Option Addr) (k j : Nat) : Addr := match la with
  | some a => ⟨a.block, a.off + k + j, none⟩
  | none => ⟨0, 0, none⟩
def nm1 (la : Option Addr) (p : IN × Nat) : List (Int × Addr) := match plI p.1 with
  | some j => [(p.1.op, adr la (p.2 * 5) j)]
  | none => []
def nmS (la : Option Addr) (l : List IN) : List (Int × Addr) := l.zipIdx.flatMap (nm1 la)
def nmG (ra : Option Addr) (i : Nat) : Int × Addr := (0, adr ra (i * 2) 1)
def nmR (ra : Option Addr) (rows : List LN) : List (Int × Addr) := (List.range rows.length).map (nmG ra)
/-- The places that steps and rows name, each with the operation that names it. -/
def nmL (la : Option Addr) (l : List IN) (ra : Option Addr) (rows : List LN) : List (Int × Addr) := nmS la l ++ nmR ra rows
theorem nmS_split {la : Option Addr} {l : List IN} {i : Nat} (hi : i < l.length) : ∃ R, nmS la l = (l.zipIdx.take i).flatMap (nm1 la) ++ (nm1 la (l[i], i) ++ R) := by
  have h2 : i < l.zipIdx.length := by rw [List.length_zipIdx]; exact hi
  refine ⟨(l.zipIdx.drop (i + 1)).flatMap (nm1 la), ?_⟩
  unfold nmS
  conv => lhs; rw [← List.take_append_drop i l.zipIdx, List.drop_eq_getElem_cons h2]
  rw [List.flatMap_append, List.flatMap_cons, List.getElem_zipIdx]
  simp
theorem nmS_next {la : Option Addr} {l : List IN} {i : Nat} (hi : i < l.length) : (l.zipIdx.take (i + 1)).flatMap (nm1 la) = (l.zipIdx.take i).flatMap (nm1 la) ++ nm1 la (l[i], i) := by
  have h2 : i < l.zipIdx.length := by rw [List.length_zipIdx]; exact hi
  rw [List.take_succ_eq_append_getElem h2, List.flatMap_append, List.getElem_zipIdx]
  simp
theorem nmS_all (la : Option Addr) (l : List IN) {i : Nat} (hi : l.length ≤ i) : (l.zipIdx.take i).flatMap (nm1 la) = nmS la l := by
  rw [List.take_of_length_le (by rw [List.length_zipIdx]; exact hi)]
  rfl
theorem nmR_split {ra : Option Addr} {rows : List LN} {k : Nat} (hk : k < rows.length) : ∃ R, nmR ra rows = (List.range k).map (nmG ra) ++ (nmG ra k :: R) := by
  have h2 : k < (List.range rows.length).length := by rw [List.length_range]; exact hk
  refine ⟨((List.range rows.length).drop (k + 1)).map (nmG ra), ?_⟩
  unfold nmR
  conv => lhs; rw [← List.take_append_drop k (List.range rows.length), List.drop_eq_getElem_cons h2]
  rw [List.map_append, List.map_cons, List.getElem_range, List.take_range, Nat.min_eq_left (by omega)]
theorem nmR_next (ra : Option Addr) (k : Nat) : (List.range (k + 1)).map (nmG ra) = (List.range k).map (nmG ra) ++ [nmG ra k] := by rw [List.range_succ, List.map_append]; rfl
abbrev XN (L : List (Int × Addr)) : Type := {x : Int × Addr // x ∈ L}
def encN {L : List (Int × Addr)} (x : XN L) : Array Value := #[.int .i64 x.1.1, .pointer (some x.1.2)]
/-- The operations stand where they stand. -/
def OpC (la : Option Addr) (l : List IN) (W : World) : Prop := ∀ i (h : i < l.length), W.cell? (adr la (i * 5) 0) = some (.int .i64 l[i].op)
def KpN (f : Nat → Prop) (la : Option Addr) (l : List IN) (W W' : World) : Prop := Keep f W W' ∧ (OpC la l W → OpC la l W')
theorem KpN.trans {f : Nat → Prop} {la : Option Addr} {l : List IN} {A B C : World} (h : KpN f la l A B) (g : KpN f la l B C) : KpN f la l A C := ⟨h.1.trans g.1, fun q => g.2 (h.2 q)⟩
theorem OpC.kept {la : Option Addr} {l : List IN} {W W' : World} (h : OpC la l W) (hb : Below W.heap.size W W') : OpC la l W' := fun i hi => cell_below (h i hi) hb
theorem namedIn (f : Nat → Prop) (w : World) (n : Nat) (hn : 1 ≤ n) (p1 p2 : Nat) (l : List IN) (rows : List LN) (la ra : Option Addr) (lc rc : Nat) (h1 : Blk w p1 22 #[.slice la l.length lc]) (h2 : Blk w p2 23 #[.slice ra rows.length rc]) (hf1 : f p1) (hf2 : f p2) (hl : OpC la l w) (hla : 0 < l.length → ∃ b o, la = some ⟨b, o, none⟩) (hra : 0 < rows.length → ∃ b o, ra = some ⟨b, o, none⟩) (m1 : l.length ≤ 9223372036854775807) (m2 : rows.length ≤ 9223372036854775807) :
    SeqStopsK Fence.wide n Try.prog 44 #[.pointer (some ⟨p1, 0, none⟩), .pointer (some ⟨p2, 0, none⟩)] (encN (L := nmL la l ra rows)) (KpN f la l) (fun xs => xs.map (fun y => y.1) = nmL la l ra rows) (fun xs => xs.map (fun y => y.1) <+: nmL la l ra rows) (nmL la l ra rows).length w := by
  intro q J Jx W hW hJ hJx hY h0
  have HJ := hid hJ
  have HY := hid hY
  have HW := hid hW
  have HL := hid (hl.kept hW)
  have HB1 := hid (h1.kept hW)
  have HB2 := hid (h2.kept hW)
  have HF1 := hid hf1
  have HF2 := hid hf2
  have HA := hid hla
  have HR := hid hra
  have x1 := HB1.out.cellF
  have z1 := HB1.out.lt
  have x2 := HB2.out.cellF
  have z2 := HB2.out.lt
  have n1 : (l.length : Int) ≤ 9223372036854775807 := by omega
  have n2 : (rows.length : Int) ≤ 9223372036854775807 := by omega
  clear h1 h2 hf1 hf2 hl hla hra hJ hJx hY hW
  refine callsIn_of_wp Try.func44 rfl trivial ?_ rfl
  simp only [Try.ntmps44, List.size_toArray, List.length_cons, List.length_nil, Nat.reduceAdd, Nat.reduceSub, Array.replicate_succ, Array.replicate_zero, List.push_toArray, List.append_toArray, List.nil_append, List.cons_append]
  gi_wp2
  gi_loopw [9] (fun s wr => ∃ (i : Nat) (pre : List (XN (nmL la l ra rows))), s = .int .i64 i ∧ i ≤ l.length ∧ Hid (pre.map (fun y => y.1) = (l.zipIdx.take i).flatMap (nm1 la)) ∧ Hid (J pre wr) ∧ Hid (Keep f W wr) ∧ Hid (OpC la l wr)) (fun s _ => l.length - (intOf s).toNat)
  case atStart => exact ⟨0, [], rfl, by omega, hid rfl, hid h0, hid (Keep.refl _ _), HL⟩
  case round =>
    clear x1 z1 x2 z2 HL
    obtain ⟨i, pre, rfl, hi, HP, HJ0, hb, HL⟩ := hrel
    have x1 := (HB1.out.keep hb.out HF1.out).cellF
    have z1 := (HB1.out.keep hb.out HF1.out).lt
    have x2 := (HB2.out.keep hb.out HF2.out).cellF
    have z2 := (HB2.out.keep hb.out HF2.out).lt
    by_cases hlt : i < l.length
    · have k1 : (i : Int) < (l.length : Int) := by omega
      obtain ⟨b, o, rfl⟩ := HA.out (by omega)
      have c0 : wr.cell? ⟨b, o + i * 5, none⟩ = some (.int .i64 l[i].op) := HL.out i hlt
      have hb0 := World.block_lt_of_cell? _ _ c0
      have HNX := hid (nmS_next (la := some ⟨b, o, none⟩) hlt)
      have HSP := hid (nmS_split (la := some ⟨b, o, none⟩) hlt)
      generalize l[i] = x at *
      gi_wp2_with fail
      refine ⟨trivial, (callsIn_wide.2 (placeT wr x b (o + i * 5) hb0 c0)).mono ?_⟩
      rintro e w1 ⟨rfl, rfl⟩
      cases hp : plI x with
      | none =>
        have HN1 : Hid (nm1 (some ⟨b, o, none⟩) (x, i) = []) := hid (by unfold nm1; rw [hp])
        rw [HN1.out] at HNX
        clear HN1 HSP
        dsimp only [Option.map]
        gi_wp2
        refine ⟨fun f hf => (by cases hf), ?_⟩
        gi_wp2
        exact ⟨⟨i + 1, pre, by simp, by omega, hid (by rw [HP.out, HNX.out, List.append_nil]), HJ0, hb, HL⟩, by simp [intOf]; omega⟩
      | some j =>
        have HN1 : Hid (nm1 (some ⟨b, o, none⟩) (x, i) = [(x.op, ⟨b, o + i * 5 + j, none⟩)]) := hid (by unfold nm1; rw [hp]; rfl)
        rw [HN1.out] at HNX HSP
        obtain ⟨R, hR⟩ := HSP.out
        have HIN : Hid ((x.op, (⟨b, o + i * 5 + j, none⟩ : Addr)) ∈ nmL (some ⟨b, o, none⟩) l ra rows) := hid (by unfold nmL; rw [hR]; simp)
        have HLN : pre.length < (nmL (some ⟨b, o, none⟩) l ra rows).length := by
          have e1 : pre.length = ((l.zipIdx.take i).flatMap (nm1 (some ⟨b, o, none⟩))).length := by rw [← HP.out, List.length_map]
          rw [e1]
          unfold nmL
          rw [hR]
          simp only [List.length_append, List.length_cons]
          omega
        have HPX : Hid ((l.zipIdx.take (i + 1)).flatMap (nm1 (some ⟨b, o, none⟩)) <+: nmL (some ⟨b, o, none⟩) l ra rows) := hid (by
          rw [HNX.out]
          unfold nmL
          rw [hR]
          exact ⟨R ++ nmR ra rows, by simp⟩)
        obtain ⟨fn, tmps, assign, body, hy, hR2⟩ := HY.out pre ⟨_, HIN.out⟩ w1 HJ0.out HLN
        dsimp only [encN] at hy
        have HRR := hid hR2
        clear hR2 HLN hR HN1 HSP hp
        dsimp only [Option.map]
        gi_wp2
        refine HRR.out.mono ?_
        rintro e W3 (⟨rfl, hJ3, hk3⟩ | ⟨rfl, hJx3⟩)
        · have hb3 : Hid (Keep f W W3) := hid (hb.out.trans hk3.1)
          have HL3 := hid (hk3.2 HL.out)
          have HJ3 := hid hJ3
          clear hJ3 hk3 hy c0 hb0 x1 z1 x2 z2
          gi_wp2
          exact ⟨⟨i + 1, _, by simp, by omega, hid (by rw [List.map_append, HP.out, HNX.out]; rfl), HJ3, hb3, HL3⟩, by simp [intOf]; omega⟩
        · have HJ3 := hid hJx3
          clear hJx3 hy c0 hb0 x1 z1 x2 z2
          gi_wp2
          refine bodyPost_ret (results_none rfl _ _ _) rfl ?_
          exact ⟨⟨_, rfl⟩, .inr ⟨_, by rw [List.map_append, HP.out]; have := HPX.out; rw [HNX.out] at this; simpa using this, HJ3.out⟩⟩
    · have k1 : ¬ (i : Int) < (l.length : Int) := by omega
      rw [nmS_all la l (by omega)] at HP
      gi_wp2
      gi_loopw [32] (fun s wr => ∃ (k : Nat) (pre : List (XN (nmL la l ra rows))), s = .int .i64 k ∧ k ≤ rows.length ∧ Hid (pre.map (fun y => y.1) = nmS la l ++ (List.range k).map (nmG ra)) ∧ Hid (J pre wr) ∧ Hid (Keep f W wr)) (fun s _ => rows.length - (intOf s).toNat)
      case atStart => exact ⟨0, pre, rfl, by omega, hid (by rw [HP.out]; simp), HJ0, hb⟩
      case round =>
        clear x1 z1 x2 z2 HJ0 HP hb HL
        obtain ⟨k, pre, rfl, hk, HP, HJ0, hb⟩ := hrel
        have x2 := (HB2.out.keep hb.out HF2.out).cellF
        have z2 := (HB2.out.keep hb.out HF2.out).lt
        by_cases hlt2 : k < rows.length
        · have k2 : (k : Int) < (rows.length : Int) := by omega
          obtain ⟨b, o, rfl⟩ := HR.out (by omega)
          obtain ⟨R, hR⟩ := nmR_split (ra := some ⟨b, o, none⟩) hlt2
          have HNX := hid (nmR_next (some ⟨b, o, none⟩) k)
          have HIN : Hid (((0 : Int), (⟨b, o + k * 2 + 1, none⟩ : Addr)) ∈ nmL la l (some ⟨b, o, none⟩) rows) := hid (by unfold nmL; rw [hR]; simp [nmG, adr])
          have HLN : pre.length < (nmL la l (some ⟨b, o, none⟩) rows).length := by
            have e1 : pre.length = (nmS la l ++ (List.range k).map (nmG (some ⟨b, o, none⟩))).length := by rw [← HP.out, List.length_map]
            rw [e1]
            unfold nmL
            rw [hR]
            simp only [List.length_append, List.length_cons]
            omega
          have HPX : Hid (nmS la l ++ (List.range (k + 1)).map (nmG (some ⟨b, o, none⟩)) <+: nmL la l (some ⟨b, o, none⟩) rows) := hid (by
            rw [HNX.out]
            unfold nmL
            rw [hR]
            exact ⟨R, by simp⟩)
          obtain ⟨fn, tmps, assign, body, hy, hR2⟩ := HY.out pre ⟨_, HIN.out⟩ wr HJ0.out HLN
          dsimp only [encN] at hy
          have HRR := hid hR2
          clear hR2 HLN hR
          gi_wp2
          refine HRR.out.mono ?_
          rintro e W3 (⟨rfl, hJ3, hk3⟩ | ⟨rfl, hJx3⟩)
          · have hb3 : Hid (Keep f W W3) := hid (hb.out.trans hk3.1)
            have HJ3 := hid hJ3
            clear hJ3 hk3 hy x2 z2
            gi_wp2
            exact ⟨⟨k + 1, _, by simp, by omega, hid (by rw [List.map_append, HP.out, HNX.out, List.append_assoc]; rfl), HJ3, hb3⟩, by simp [intOf]; omega⟩
          · have HJ3 := hid hJx3
            clear hJx3 hy x2 z2
            gi_wp2
            refine bodyPost_ret (results_none rfl _ _ _) rfl ?_
            exact ⟨⟨_, rfl⟩, .inr ⟨_, by rw [List.map_append, HP.out]; have := HPX.out; rw [HNX.out] at this; simpa [nmG, adr] using this, HJ3.out⟩⟩
        · have k2 : ¬ (k : Int) < (rows.length : Int) := by omega
          have ek : k = rows.length := by omega
          rw [ek] at HP
          clear ek
          gi_wp2
          go_end0
          exact ⟨⟨_, rfl⟩, .inl ⟨pre, by rw [HP.out]; rfl, HJ0.out⟩⟩
end Go.Proofs.Ytliohglpbmpbhaa
namespace Go.Proofs.Ytliohglpbmpbhaa
open Go.RowKit
set_option maxRecDepth 1000000
set_option linter.unusedVariables false
set_option linter.unusedSimpArgs false
set_option maxHeartbeats 1000000
def oI64 (x : Int) : Prop := -9223372036854775808 ≤ x ∧ x ≤ 9223372036854775807
def olI (x : Int) : Lit := .int .i64 x
theorem owfI {x : Int} (h : oI64 x) : (Lit.int .i64 x).wf = true := by
  unfold oI64 at h
  simp [Lit.wf, IntKind.min, IntKind.max, IntKind.signed, IntKind.bits]
  omega
/-- Block b is a map of numbers to numbers: M says which. -/
def MpI (w : World) (b n : Nat) (M : Int → Option Int) : Prop := ∃ D : DataW Unit, w.ownsMap Try.prog 3 (plainElem Try.prog 3) b n D ∧ Go.Maps.IsMap D ∧ ∀ x, oI64 x → Go.Maps.has D (olI x) = (M x).isSome ∧ ∀ v, M x = some v → D.atKey (olI x) (.lit (.int .i64 0)) = .lit (.int .i64 v)
theorem MpI.lt {w : World} {b n : Nat} {M : Int → Option Int} (h : MpI w b n M) : b < w.heap.size := by
  obtain ⟨D, h1, _⟩ := h
  exact h1.lt
theorem MpI.setCell {w : World} {b n : Nat} {M : Int → Option Int} (h : MpI w b n M) {a : Addr} (ha : b ≠ a.block) (u : Value) : MpI (w.setCell a u) b n M := by
  obtain ⟨D, h1, h2, h3⟩ := h
  exact ⟨D, h1.setCell ha u, h2, h3⟩
theorem MpI.same {w w' : World} {b n : Nat} {M : Int → Option Int} (h : MpI w b n M) (hb : w'.heap[b]? = w.heap[b]?) : MpI w' b n M := by
  obtain ⟨D, ⟨es, ck, h1, h1'⟩, h2, h3⟩ := h
  exact ⟨D, ⟨es, ck, hb.trans h1, h1'⟩, h2, h3⟩
theorem MpI.kept {w w' : World} {b n : Nat} {M : Int → Option Int} (h : MpI w b n M) (hb : Below w.heap.size w w') : MpI w' b n M := h.same (hb.block b h.lt)
theorem MpI.keep {f : Nat → Prop} {w w' : World} {b n : Nat} {M : Int → Option Int} (h : MpI w b n M) (hb : Keep f w w') (hf : f b) : MpI w' b n M := h.same (hb.block b h.lt hf)
theorem MpI.new (w : World) : MpI (w.alloc (.map #[] 0)) w.heap.size 0 (fun _ => none) :=
  ⟨_, World.ownsMap_made _ _ _ _, ⟨[], rfl⟩, fun x hx => ⟨rfl, fun v h => by cases h⟩⟩
theorem MpI.zero3 (w : World) : (zeroValue 3).run Try.prog w = .ok (.int .i64 0) w := by rfl
theorem MpI.look2 {w : World} {b n : Nat} {M : Int → Option Int} (h : MpI w b n M) {x : Int} (hx : oI64 x) : ∃ c, (∀ W : World, W.heap[b]? = w.heap[b]? → (Instr.lookup 69 (.map (some b)) (.int .i64 x) true).run Try.prog W = .ok (.tuple #[.int .i64 c, .bool (M x).isSome]) W) ∧ ∀ v, M x = some v → c = v := by
  obtain ⟨D, h1, h2, h3⟩ := h
  have hkey : keyOf Try.prog 3 (.int .i64 x) = some (olI x) := Go.Maps.keyOf_int_mk Try.underlying3 (owfI hx)
  obtain ⟨g1, g2⟩ := h3 x hx
  obtain ⟨v, ps, hrun, hv⟩ := h1.look_ok (Go.Maps.int_keyed Try.underlying3) Try.underlying69 (MpI.zero3 w) (plainElem_int Try.underlying3 (by decide)) hkey
  obtain ⟨c, rfl, hc, hwc⟩ := plainElem_int_inv Try.underlying3 hv
  have hc1 := congrArg Prod.fst hc
  refine ⟨c, fun W hW => ?_, fun u e => ?_⟩
  · have k1 : W.ownsMap Try.prog 3 (plainElem Try.prog 3) b n D := by
      obtain ⟨es, ck, q1, q2⟩ := h1
      exact ⟨es, ck, hW.trans q1, q2⟩
    obtain ⟨v2, ps2, hrun2, hv2⟩ := k1.look_ok (Go.Maps.int_keyed Try.underlying3) Try.underlying69 (MpI.zero3 W) (plainElem_int Try.underlying3 (by decide)) hkey
    obtain ⟨c2, rfl, hc2, hwc2⟩ := plainElem_int_inv Try.underlying3 hv2
    have hc3 := congrArg Prod.fst hc2
    have e : c2 = c := by
      have := hc3.symm.trans hc1
      injection this with this
      injection this
    rw [e, g1] at hrun2
    exact hrun2
  · have e2 := g2 u e
    rw [e2] at hc1
    injection hc1 with hc1
    injection hc1 with _ hc1
    exact hc1.symm
def putM (M : Int → Option Int) (k v : Int) : Int → Option Int := fun x => if x = k then some v else M x
theorem olI_inj {x y : Int} (h : olI x = olI y) : x = y := by
  unfold olI at h
  injection h
theorem MpI.put {w : World} {b n : Nat} {M : Int → Option Int} (h : MpI w b n M) (hn : n < 4000000) {k v : Int} (hk : oI64 k) (hv : oI64 v) : ∃ w', (Instr.mapUpdate 69 (.map (some b)) (.int .i64 k) (.int .i64 v)).run Try.prog w = .ok () w' ∧ MpI w' b (n + 1) (putM M k v) ∧ w.grownBy w' (some b) := by
  obtain ⟨D, h1, h2, h3⟩ := h
  have hkey : keyOf Try.prog 3 (.int .i64 k) = some (olI k) := Go.Maps.keyOf_int_mk Try.underlying3 (owfI hk)
  obtain ⟨w', hrun, ho, hg⟩ := h1.update (val := .int .i64 v) (Go.Maps.int_keyed Try.underlying3) Try.underlying69 (by unfold maxLen; omega) hkey (plainElem_int Try.underlying3 (owfI hv))
  refine ⟨w', hrun, ⟨_, ho, ?_, fun x hx2 => ?_⟩, hg⟩
  · obtain ⟨es, rfl⟩ := h2; exact ⟨_, rfl⟩
  · obtain ⟨g1, g2⟩ := h3 x hx2
    unfold putM
    by_cases e : x = k
    · subst e
      rw [if_pos rfl]
      refine ⟨?_, fun u eu => ?_⟩
      · rw [Go.Maps.has_put_same h2 (by unfold olI; trivial)]
        rfl
      · rw [Go.Maps.atKey_put_same h2 (by unfold olI; trivial)]
        cases eu
        rfl
    · have hne : olI x ≠ olI k := fun q => e (olI_inj q)
      rw [if_neg e]
      refine ⟨?_, fun u eu => ?_⟩
      · rw [Go.Maps.has_put_other hne]
        exact g1
      · rw [Go.Maps.atKey_put_other hne]
        exact g2 u eu
/-- What 'named' tells: a function value over two boxes. -/
theorem namedT (w : World) (la ra : Option Addr) (n m lc rc : Nat) : Calls Try.prog 26 #[.slice la n lc, .slice ra m rc] w fun e w' => e = .returned (.func (.func 44) #[] #[.pointer (some ⟨w.heap.size, 0, none⟩), .pointer (some ⟨w.heap.size + 1, 0, none⟩)]) ∧ w' = (w.alloc (.cells #[.slice la n lc] 22)).alloc (.cells #[.slice ra m rc] 23) := by
  go_enter Try.func26, Try.ntmps26
  go_wp2
  exact bodyPost_ret (v := .func (.func 44) #[] #[.pointer (some ⟨w.heap.size, 0, none⟩), .pointer (some ⟨w.heap.size + 1, 0, none⟩)]) (by simp [results, Try.results26, go_sem]) rfl ⟨rfl, rfl⟩
theorem cfNamed (args : Array Value) (W : World) : (callFunc 44 args).run Try.prog W = .ok (.enter 44 args) W := cf_enter Try.func44 (by kernel_rfl) (by kernel_rfl) args W
end Go.Proofs.Ytliohglpbmpbhaa
namespace Go.Proofs.Ytliohglpbmpbhaa
open Go.RowKit
set_option maxRecDepth 1000000
set_option linter.unusedVariables false
set_option linter.unusedSimpArgs false
set_option maxHeartbeats 1000000
/-- A place, where it stands now. -/
def rnN (M : Int → Option Int) (v : Int) : Int := (M v).getD v
def rnI (M : Int → Option Int) (x : IN) : IN := match plI x with
  | some 1 => { x with a := rnN M x.a }
  | some 2 => { x with b := rnN M x.b }
  | _ => x
def rnL (M : Int → Option Int) (x : LN) : LN := { x with pl := rnN M x.pl }
def upd1 (M : Int → Option Int) (fl : List Value) (k : Nat) : List Value := match fl[k]? with
  | some (.int .i64 v) => fl.set k (.int .i64 (rnN M v))
  | _ => fl
def upd (M : Int → Option Int) (fl : List Value) (ks : List Nat) : List Value := ks.foldl (upd1 M) fl
def AllI (fl : List Value) : Prop := ∀ u ∈ fl, ∃ v, u = .int .i64 v ∧ oI64 v
theorem upd1_len (M : Int → Option Int) (fl : List Value) (k : Nat) : (upd1 M fl k).length = fl.length := by
  unfold upd1
  split <;> simp
theorem upd_len (M : Int → Option Int) (ks : List Nat) : ∀ fl : List Value, (upd M fl ks).length = fl.length := by
  induction ks with
  | nil => intro fl; rfl
  | cons k ks ih => intro fl; exact (ih (upd1 M fl k)).trans (upd1_len M fl k)
theorem upd1_all {M : Int → Option Int} (hM : ∀ x v, M x = some v → oI64 v) {fl : List Value} (h : AllI fl) (k : Nat) : AllI (upd1 M fl k) := by
  unfold upd1
  split
  · rename_i v hv
    intro u hu
    rcases List.mem_or_eq_of_mem_set hu with h1 | h1
    · exact h u h1
    · refine ⟨_, h1, ?_⟩
      unfold rnN
      cases q : M v with
      | none =>
        obtain ⟨v2, e, h2⟩ := h _ (List.mem_of_getElem? hv)
        cases e
        exact h2
      | some z => exact hM v z q
  · exact h
theorem upd_all {M : Int → Option Int} (hM : ∀ x v, M x = some v → oI64 v) (ks : List Nat) : ∀ {fl : List Value}, AllI fl → AllI (upd M fl ks) := by
  induction ks with
  | nil => intro fl h; exact h
  | cons k ks ih => intro fl h; exact ih (upd1_all hM h k)
theorem upd_snoc (M : Int → Option Int) (fl : List Value) (ks : List Nat) (k : Nat) : upd M fl (ks ++ [k]) = upd1 M (upd M fl ks) k := by
  unfold upd
  rw [List.foldl_append]
  rfl
theorem upd1_at {M : Int → Option Int} {fl : List Value} {k : Nat} {v : Int} (h : fl[k]? = some (.int .i64 v)) : upd1 M fl k = fl.set k (.int .i64 (rnN M v)) := by
  unfold upd1
  rw [h]
/-- Which of the places lie in a slice's block: how far behind its start. -/
def idxs (la : Option Addr) (pre : List (Int × Addr)) : List Nat := pre.filterMap (fun x => if la.map (·.block) = some x.2.block then some x.2.off else none)
theorem idxs_snoc (la : Option Addr) (pre : List (Int × Addr)) (x : Int × Addr) : idxs la (pre ++ [x]) = idxs la pre ++ (if la.map (·.block) = some x.2.block then [x.2.off] else []) := by
  unfold idxs
  rw [List.filterMap_append]
  congr 1
  by_cases h : la.map (·.block) = some x.2.block
  · simp only [List.filterMap_cons, List.filterMap_nil, if_pos h]
  · simp only [List.filterMap_cons, List.filterMap_nil, if_neg h]
theorem idxs_app (la : Option Addr) (p q : List (Int × Addr)) : idxs la (p ++ q) = idxs la p ++ idxs la q := by
  unfold idxs
  rw [List.filterMap_append]
theorem pl_cases (x : IN) : plI x = none ∨ plI x = some 1 ∨ plI x = some 2 := by
  unfold plI
  split
  · exact .inr (.inr rfl)
  · split
    · exact .inr (.inl rfl)
    · exact .inl rfl
/-- The indices of what steps name. -/
def ixS (k : Nat) (x : IN) : List Nat := match plI x with
  | some j => [k * 5 + j]
  | none => []
theorem idx_nm1 (g : Nat) (x : IN) (i : Nat) : idxs (some ⟨g, 0, none⟩) (nm1 (some ⟨g, 0, none⟩) (x, i)) = ixS i x := by
  unfold nm1 ixS idxs
  cases plI x with
  | none => rfl
  | some j => simp [adr]
theorem upd1_app (M : Int → Option Int) (P fl : List Value) (k : Nat) : upd1 M (P ++ fl) (P.length + k) = P ++ upd1 M fl k := by
  unfold upd1
  rw [List.getElem?_append_right (by omega), Nat.add_sub_cancel_left]
  split
  · rw [List.set_append_right _ _ (by omega), Nat.add_sub_cancel_left]
  · rfl
theorem rnI_cells (M : Int → Option Int) (P R : List Value) (x : IN) (k : Nat) (hP : P.length = k * 5) : upd M (P ++ (cIN x ++ R)) (ixS k x) = P ++ (cIN (rnI M x) ++ R) := by
  unfold ixS rnI
  rcases pl_cases x with h | h | h <;> rw [h]
  · rfl
  · show upd1 M (P ++ (cIN x ++ R)) (k * 5 + 1) = _
    rw [← hP, upd1_app]
    rfl
  · show upd1 M (P ++ (cIN x ++ R)) (k * 5 + 2) = _
    rw [← hP, upd1_app]
    rfl
theorem updS (M : Int → Option Int) (g : Nat) : ∀ (l : List IN) (k : Nat) (P : List Value), P.length = k * 5 → upd M (P ++ l.flatMap cIN) (idxs (some ⟨g, 0, none⟩) ((l.zipIdx k).flatMap (nm1 (some ⟨g, 0, none⟩)))) = P ++ (l.map (rnI M)).flatMap cIN
  | [], k, P, h => by simp [idxs, upd]
  | x :: l, k, P, h => by
    have e : idxs (some ⟨g, 0, none⟩) (((x :: l).zipIdx k).flatMap (nm1 (some ⟨g, 0, none⟩))) = ixS k x ++ idxs (some ⟨g, 0, none⟩) ((l.zipIdx (k + 1)).flatMap (nm1 (some ⟨g, 0, none⟩))) := by rw [List.zipIdx_cons, List.flatMap_cons, idxs_app, idx_nm1]
    rw [e]
    unfold upd
    rw [List.foldl_append]
    show upd M (upd M (P ++ (cIN x ++ l.flatMap cIN)) (ixS k x)) _ = _
    rw [rnI_cells M P _ x k h, ← List.append_assoc]
    rw [updS M g l (k + 1) (P ++ cIN (rnI M x)) (by rw [List.length_append, h]; simp [cIN]; omega)]
    simp [List.append_assoc]
theorem updS0 (M : Int → Option Int) (g : Nat) (l : List IN) : upd M (l.flatMap cIN) (idxs (some ⟨g, 0, none⟩) (nmS (some ⟨g, 0, none⟩) l)) = (l.map (rnI M)).flatMap cIN := by
  have := updS M g l 0 [] rfl
  unfold nmS
  simpa using this
theorem idxR (g : Nat) (n : Nat) : idxs (some ⟨g, 0, none⟩) ((List.range n).map (nmG (some ⟨g, 0, none⟩))) = (List.range n).map (fun i => i * 2 + 1) := by
  unfold idxs
  rw [List.filterMap_map]
  have : ((fun x : Int × Addr => if Option.map (fun x => x.block) (some (⟨g, 0, none⟩ : Addr)) = some x.2.block then some x.2.off else none) ∘ nmG (some ⟨g, 0, none⟩)) = fun i => some (i * 2 + 1) := by
    funext i
    simp [nmG, adr]
  rw [this, show (fun i : Nat => some (i * 2 + 1)) = some ∘ (fun i => i * 2 + 1) from rfl, List.filterMap_eq_map]
theorem updR (M : Int → Option Int) : ∀ (l : List LN) (k : Nat) (P : List Value), P.length = k * 2 → upd M (P ++ l.flatMap cLN) ((List.range l.length).map (fun i => (k + i) * 2 + 1)) = P ++ (l.map (rnL M)).flatMap cLN
  | [], k, P, h => by simp [upd]
  | x :: l, k, P, h => by
    rw [List.length_cons, List.range_succ_eq_map, List.map_cons, List.map_map]
    unfold upd
    rw [List.foldl_cons]
    have e : upd1 M (P ++ (x :: l).flatMap cLN) ((k + 0) * 2 + 1) = (P ++ cLN (rnL M x)) ++ l.flatMap cLN := by
      rw [show (k + 0) * 2 + 1 = P.length + 1 by omega, List.flatMap_cons, upd1_app, List.append_assoc]
      rfl
    rw [e]
    have := updR M l (k + 1) (P ++ cLN (rnL M x)) (by rw [List.length_append, h]; simp [cLN]; omega)
    unfold upd at this
    rw [show ((fun i => (k + i) * 2 + 1) ∘ Nat.succ) = fun i => (k + 1 + i) * 2 + 1 from funext fun i => by simp; omega, this]
    simp [List.append_assoc]
theorem updR0 (M : Int → Option Int) (g : Nat) (l : List LN) : upd M (l.flatMap cLN) (idxs (some ⟨g, 0, none⟩) (nmR (some ⟨g, 0, none⟩) l)) = (l.map (rnL M)).flatMap cLN := by
  unfold nmR
  rw [idxR]
  have := updR M l 0 [] rfl
  simpa using this
end Go.Proofs.Ytliohglpbmpbhaa
namespace Go.Proofs.Ytliohglpbmpbhaa
open Go.RowKit Go.Shelf
set_option maxRecDepth 1000000
attribute [local go_sem] Oper.semAt_some
set_option linter.unusedVariables false
set_option linter.unusedSimpArgs false
set_option maxHeartbeats 2000000
theorem own_grown {A B : World} {base e size n : Nat} {v : Value} {fl : List Value} {row : Option Nat} (h : A.ownsRow base e size v n fl) (hg : A.grownBy B row) (hr : ∀ r, row = some r → ∃ o : Obj, A.heap[r]? = some o ∧ o.isCells = false) : B.ownsRow base e size v n fl :=
  own_keep (f := fun k => row ≠ some k) h (fun k hk e => by
    obtain ⟨_, _, c1, q1⟩ := own_type h hk
    obtain ⟨o, ho, hc⟩ := hr k e
    rw [q1] at ho
    cases ho
    cases hc) ⟨hg.os, hg.tape, hg.output, hg.size, fun k hk hf => hg.block k hk (fun e => hf e.symm)⟩
theorem own_put0 {w : World} {base e size g n cap : Nat} {fl : List Value} (h : w.ownsRow base e size (.slice (some ⟨g, 0, none⟩) n cap) n fl) (j : Nat) (hj : j < n * size) (v : Value) : (w.setCell ⟨g, j, none⟩ v).ownsRow base e size (.slice (some ⟨g, 0, none⟩) n cap) n (fl.set j v) := by
  refine ⟨by rw [List.length_set]; exact h.1, ?_⟩
  rcases h.2 with ⟨e, _⟩ | ⟨g', cap', cur, e, hbg, hgg, hnc, hcm, hcs, htk⟩
  · cases e
  cases e
  refine .inr ⟨g, cap, cur.setIfInBounds j v, rfl, hbg, Blk.set hgg j v, hnc, hcm, by simpa using hcs, ?_⟩
  rw [← htk]
  simp [List.take_set]
theorem own_oth0 {w : World} {base e size n q j : Nat} {v u : Value} {fl : List Value} (h : w.ownsRow base e size v n fl) (hq : v.ownBlock ≠ some q) : (w.setCell ⟨q, j, none⟩ u).ownsRow base e size v n fl :=
  own_keep (f := (· ≠ q)) h (fun k hk e => hq (by rw [← e]; exact hk)) (Keep.setCell _ _ _ (fun h => h rfl))
theorem own_cell0 {w : World} {base e size g n cap k : Nat} {fl : List Value} {u : Value} (h : w.ownsRow base e size (.slice (some ⟨g, 0, none⟩) n cap) n fl) (hk : fl[k]? = some u) : w.cell? ⟨g, k, none⟩ = some u ∧ w.frozen? ⟨g, k, none⟩ = false := by
  rcases h.2 with ⟨e, _⟩ | ⟨g', cap', cur, e, hbg, hgg, hnc, hcm, hcs, htk⟩
  · cases e
  cases e
  have B : Blk w g _ cur := hgg
  have hk2 : k < n * size := by
    have := (List.getElem?_eq_some_iff.1 hk).1
    rw [h.1] at this
    exact this
  rw [← htk, List.getElem?_take_of_lt hk2] at hk
  refine ⟨?_, ?_⟩
  · rw [B.cellF]
    simpa using hk
  · exact B.frz k
/-- Where a place that is named lies. -/
theorem nm_at {la ra : Option Addr} {l : List IN} {rows : List LN} {x : Int × Addr} (hx : x ∈ nmL la l ra rows) (h1 : 0 < l.length → ∃ g, la = some ⟨g, 0, none⟩) (h2 : 0 < rows.length → ∃ g, ra = some ⟨g, 0, none⟩) : (∃ g k, la = some ⟨g, 0, none⟩ ∧ x.2 = ⟨g, k, none⟩ ∧ k < l.length * 5 ∧ k % 5 ≠ 0) ∨ (∃ g k, ra = some ⟨g, 0, none⟩ ∧ x.2 = ⟨g, k, none⟩ ∧ k < rows.length * 2) := by
  unfold nmL at hx
  rcases List.mem_append.1 hx with hx | hx
  · unfold nmS at hx
    rw [List.mem_flatMap] at hx
    obtain ⟨⟨y, i⟩, hy, hx⟩ := hx
    rw [List.mk_mem_zipIdx_iff_getElem?] at hy
    have hi : i < l.length := (List.getElem?_eq_some_iff.1 hy).1
    obtain ⟨g, rfl⟩ := h1 (by omega)
    left
    unfold nm1 at hx
    rcases pl_cases y with h | h | h
    · rw [h] at hx; cases hx
    · rw [h] at hx
      simp only [List.mem_singleton] at hx
      subst hx
      exact ⟨g, i * 5 + 1, rfl, by simp [adr], by omega, by omega⟩
    · rw [h] at hx
      simp only [List.mem_singleton] at hx
      subst hx
      exact ⟨g, i * 5 + 2, rfl, by simp [adr], by omega, by omega⟩
  · unfold nmR at hx
    rw [List.mem_map] at hx
    obtain ⟨i, hi, rfl⟩ := hx
    rw [List.mem_range] at hi
    obtain ⟨g, rfl⟩ := h2 (by omega)
    exact .inr ⟨g, i * 2 + 1, rfl, by simp [nmG, adr], by omega⟩
/-- How far places are renumbered. -/
structure RnS (f : Nat → Prop) (w3 : World) (base : Nat) (la ra : Option Addr) (l : List IN) (rows : List LN) (lc rc : Nat) (M : Int → Option Int) (pre : List (Int × Addr)) (W : World) : Prop where
  kp : Keep f w3 W
  o1 : W.ownsRow base 42 5 (.slice la l.length lc) l.length (upd M (l.flatMap cIN) (idxs la pre))
  o2 : W.ownsRow base 28 2 (.slice ra rows.length rc) rows.length (upd M (rows.flatMap cLN) (idxs ra pre))
theorem RnS.apart {f : Nat → Prop} {w3 : World} {base : Nat} {la ra : Option Addr} {l : List IN} {rows : List LN} {lc rc : Nat} {M : Int → Option Int} {pre : List (Int × Addr)} {W : World} (h : RnS f w3 base la ra l rows lc rc M pre W) {g : Nat} (hg : la = some ⟨g, 0, none⟩) : (Value.slice ra rows.length rc).ownBlock ≠ some g := fun hr => by
  subst hg
  obtain ⟨_, _, c1, q1⟩ := own_type h.o1 (k := g) rfl
  obtain ⟨_, _, c2, q2⟩ := own_type h.o2 hr
  rw [q1] at q2
  cases q2
theorem RnS.apart2 {f : Nat → Prop} {w3 : World} {base : Nat} {la ra : Option Addr} {l : List IN} {rows : List LN} {lc rc : Nat} {M : Int → Option Int} {pre : List (Int × Addr)} {W : World} (h : RnS f w3 base la ra l rows lc rc M pre W) {g : Nat} (hg : ra = some ⟨g, 0, none⟩) : (Value.slice la l.length lc).ownBlock ≠ some g := fun hr => by
  subst hg
  obtain ⟨_, _, c1, q1⟩ := own_type h.o2 (k := g) rfl
  obtain ⟨_, _, c2, q2⟩ := own_type h.o1 hr
  rw [q1] at q2
  cases q2
theorem AllI.at {fl : List Value} (h : AllI fl) {k : Nat} (hk : k < fl.length) : ∃ v, fl[k]? = some (.int .i64 v) ∧ oI64 v := by
  obtain ⟨v, e, hv⟩ := h fl[k] (List.getElem_mem hk)
  exact ⟨v, by rw [List.getElem?_eq_getElem hk, e], hv⟩
theorem set_same {fl : List Value} {k : Nat} {u : Value} (h : fl[k]? = some u) : fl.set k u = fl := by
  obtain ⟨hk, rfl⟩ := List.getElem?_eq_some_iff.1 h
  exact List.set_getElem_self hk
theorem RnS.step {f : Nat → Prop} {w3 : World} {base : Nat} {la ra : Option Addr} {l : List IN} {rows : List LN} {lc rc : Nat} {M : Int → Option Int} {pre : List (Int × Addr)} {W : World} (h : RnS f w3 base la ra l rows lc rc M pre W) {x : Int × Addr} (hx : x ∈ nmL la l ra rows) (h1 : 0 < l.length → ∃ g, la = some ⟨g, 0, none⟩) (h2 : 0 < rows.length → ∃ g, ra = some ⟨g, 0, none⟩) (hI1 : AllI (l.flatMap cIN)) (hI2 : AllI (rows.flatMap cLN)) (hM : ∀ x v, M x = some v → oI64 v) (hf : ∀ g, la.map (·.block) = some g ∨ ra.map (·.block) = some g → ¬ f g) :
    ∃ v, W.cell? x.2 = some (.int .i64 v) ∧ oI64 v ∧ W.frozen? x.2 = false ∧ (M v = none → RnS f w3 base la ra l rows lc rc M (pre ++ [x]) W) ∧ RnS f w3 base la ra l rows lc rc M (pre ++ [x]) (W.setCell x.2 (.int .i64 (rnN M v))) ∧ Keep f W (W.setCell x.2 (.int .i64 (rnN M v))) ∧ (OpC la l W → OpC la l (W.setCell x.2 (.int .i64 (rnN M v)))) := by
  have A1 := upd_all hM (idxs la pre) hI1
  have A2 := upd_all hM (idxs ra pre) hI2
  have n1 : (upd M (l.flatMap cIN) (idxs la pre)).length = l.length * 5 := h.o1.1
  have n2 : (upd M (rows.flatMap cLN) (idxs ra pre)).length = rows.length * 2 := h.o2.1
  rcases nm_at hx h1 h2 with ⟨g, k, rfl, ex, hk, hk5⟩ | ⟨g, k, rfl, ex, hk⟩
  · obtain ⟨v, ev, hv⟩ := A1.at (k := k) (by omega)
    obtain ⟨c0, c1⟩ := own_cell0 h.o1 ev
    have hne := h.apart rfl
    have hra : ra.map (·.block) ≠ some x.2.block := fun q => hne (by
      cases ra with
      | none => cases q
      | some a => rw [ex] at q; exact q)
    have e1 : idxs (some ⟨g, 0, none⟩) (pre ++ [x]) = idxs (some ⟨g, 0, none⟩) pre ++ [k] := by rw [idxs_snoc, if_pos (by rw [ex]; rfl), ex]
    have e2 : idxs ra (pre ++ [x]) = idxs ra pre := by rw [idxs_snoc, if_neg hra, List.append_nil]
    have hkp : Keep f W (W.setCell x.2 (.int .i64 (rnN M v))) := by
      rw [ex]
      exact Keep.setCell _ _ _ (hf g (.inl rfl))
    refine ⟨v, by rw [ex]; exact c0, hv, by rw [ex]; exact c1, fun hn => ⟨h.kp, ?_, by rw [e2]; exact h.o2⟩, ⟨h.kp.trans hkp, ?_, ?_⟩, hkp, fun ho i hi => ?_⟩
    · rw [e1, upd_snoc, upd1_at ev, show rnN M v = v by unfold rnN; rw [hn]; rfl, set_same ev]
      exact h.o1
    · rw [e1, upd_snoc, upd1_at ev, ex]
      exact own_put0 h.o1 k hk _
    · rw [e2, ex]
      exact own_oth0 h.o2 hne
    · have q := ho i hi
      obtain ⟨u, eu, -⟩ := A1.at (k := i * 5) (by omega)
      have d := (own_cell0 h.o1 eu).1
      have hq : W.cell? ⟨g, i * 5, none⟩ = some (.int .i64 l[i].op) := by simpa [adr] using q
      rw [hq] at d
      have d2 := (own_cell0 (own_put0 h.o1 k hk (.int .i64 (rnN M v))) (k := i * 5) (u := .int .i64 u) (by rw [List.getElem?_set_ne (by omega)]; exact eu)).1
      rw [ex]
      simpa [adr] using d2.trans d.symm
  · obtain ⟨v, ev, hv⟩ := A2.at (k := k) (by omega)
    obtain ⟨c0, c1⟩ := own_cell0 h.o2 ev
    have hne := h.apart2 rfl
    have hla : la.map (·.block) ≠ some x.2.block := fun q => hne (by
      cases la with
      | none => cases q
      | some a => rw [ex] at q; exact q)
    have e1 : idxs (some ⟨g, 0, none⟩) (pre ++ [x]) = idxs (some ⟨g, 0, none⟩) pre ++ [k] := by rw [idxs_snoc, if_pos (by rw [ex]; rfl), ex]
    have e2 : idxs la (pre ++ [x]) = idxs la pre := by rw [idxs_snoc, if_neg hla, List.append_nil]
    have hkp : Keep f W (W.setCell x.2 (.int .i64 (rnN M v))) := by
      rw [ex]
      exact Keep.setCell _ _ _ (hf g (.inr rfl))
    refine ⟨v, by rw [ex]; exact c0, hv, by rw [ex]; exact c1, fun hn => ⟨h.kp, by rw [e2]; exact h.o1, ?_⟩, ⟨h.kp.trans hkp, ?_, ?_⟩, hkp, fun ho i hi => ?_⟩
    · rw [e1, upd_snoc, upd1_at ev, show rnN M v = v by unfold rnN; rw [hn]; rfl, set_same ev]
      exact h.o2
    · rw [e2, ex]
      exact own_oth0 h.o1 hne
    · rw [e1, upd_snoc, upd1_at ev, ex]
      exact own_put0 h.o2 k hk _
    · have q := ho i hi
      obtain ⟨g1, rfl⟩ := h1 (by omega)
      have hgg : g1 ≠ g := fun e => hne (by rw [e]; rfl)
      have hq : W.cell? ⟨g1, i * 5, none⟩ = some (.int .i64 l[i].op) := by simpa [adr] using q
      have hs := Below.heap_setCell W ⟨g, k, none⟩ (.int .i64 (rnN M v)) g1 hgg
      rw [ex]
      have : (W.setCell ⟨g, k, none⟩ (.int .i64 (rnN M v))).cell? ⟨g1, i * 5, none⟩ = some (.int .i64 l[i].op) := by
        unfold World.cell? at hq ⊢
        rw [hs]
        exact hq
      simpa [adr] using this
end Go.Proofs.Ytliohglpbmpbhaa
namespace Go.Proofs.Ytliohglpbmpbhaa
open Go.RowKit Go.Shelf
set_option maxRecDepth 1000000
attribute [local go_sem] Oper.semAt_some
set_option linter.unusedVariables false
set_option linter.unusedSimpArgs false
set_option maxHeartbeats 2000000
/-- What a range over a function leaves to be collected. -/
def mkD (D : Nat) : Deferred := { target := .collected D, args := #[] }
def Coll (W : World) (base : Nat) (Ds : List Nat) : Prop := Ds.Nodup ∧ ∀ D ∈ Ds, base ≤ D ∧ W.heap[D]? = some (.deferred (some []))
theorem Coll.nil (W : World) (base : Nat) : Coll W base [] := ⟨List.nodup_nil, fun D h => by cases h⟩
theorem Coll.lt {W : World} {base : Nat} {Ds : List Nat} (h : Coll W base Ds) {D : Nat} (hD : D ∈ Ds) : D < W.heap.size := (Array.getElem?_eq_some_iff.1 (h.2 D hD).2).1
theorem Coll.cons {W : World} {base : Nat} {Ds : List Nat} {D : Nat} (h : Coll W base Ds) (hb : base ≤ D) (hn : D ∉ Ds) (hD : W.heap[D]? = some (.deferred (some []))) : Coll W base (D :: Ds) :=
  ⟨List.nodup_cons.2 ⟨hn, h.1⟩, fun E hE => by rcases List.mem_cons.1 hE with rfl | hE; exact ⟨hb, hD⟩; exact h.2 E hE⟩
theorem Coll.keep {W W' : World} {base : Nat} {Ds : List Nat} (h : Coll W base Ds) (hk : ∀ D ∈ Ds, W'.heap[D]? = W.heap[D]?) : Coll W' base Ds := ⟨h.1, fun D hD => ⟨(h.2 D hD).1, (hk D hD).trans (h.2 D hD).2⟩⟩
theorem Coll.kept {W W' : World} {base : Nat} {Ds : List Nat} (h : Coll W base Ds) (hb : Below W.heap.size W W') : Coll W' base Ds := h.keep (fun D hD => hb.block D (h.lt hD))
/-- The same but for blocks from base on. -/
theorem putObj_below {W : World} {base D : Nat} (hb : base ≤ D) (hs : base ≤ W.heap.size) (o : Obj) : Below base W (W.putObj D o) := ⟨rfl, rfl, rfl, by simp [World.putObj], fun k hk => by simp [World.putObj, Array.getElem?_setIfInBounds]; omega⟩
theorem putObj_other {W : World} {k D : Nat} (h : k ≠ D) (o : Obj) : (W.putObj D o).heap[k]? = W.heap[k]? := by simp [World.putObj, Array.getElem?_setIfInBounds]; omega
theorem leave_all {fn : Func} {tmps : Array Value} {R : Ending → World → Prop} {base : Nat} (n : Nat) : ∀ (Ds : List Nat) (W : World), Coll W base Ds → base ≤ W.heap.size → (∀ W', Below base W W' → ∃ v, (results fn tmps).run Try.prog W' = .ok v W' ∧ R (.returned v) W') → LeavesInM Fence.wide n Try.prog fn tmps R (Ds.map mkD) .returning W
  | [], W, _, _, h => h W (Below.refl _ _)
  | D :: Ds, W, hc, hs, h => by
    have hD := hc.2 D List.mem_cons_self
    have hn := List.nodup_cons.1 hc.1
    refine ⟨by simp, .inl ⟨D, _, rfl, run_takeDeferred hD.2, ?_⟩⟩
    have hb := putObj_below (W := W) hD.1 hs (.deferred none)
    exact leave_all n Ds _ ⟨hn.2, fun E hE => ⟨(hc.2 E (List.mem_cons_of_mem _ hE)).1, (putObj_other (fun e => hn.1 (by rw [← e]; exact hE)) _).trans (hc.2 E (List.mem_cons_of_mem _ hE)).2⟩⟩ (Nat.le_trans hs hb.size) (fun W' hW' => h W' (hb.trans hW'))
theorem own_at0 {w : World} {base e size n c : Nat} {a : Option Addr} {fl : List Value} (h : w.ownsRow base e size (.slice a n c) n fl) : (0 < n → ∃ g, a = some ⟨g, 0, none⟩) ∧ n ≤ 9223372036854775807 := by
  rcases h.2 with ⟨e, e0⟩ | ⟨g', cap', cur, e, hbg, hgg, hnc, hcm, hcs, htk⟩
  · exact ⟨fun h => by omega, by omega⟩
  · cases e
    unfold maxLen at hcm
    exact ⟨fun _ => ⟨g', rfl⟩, by omega⟩
theorem idx_other {g : Nat} : ∀ {pre : List (Int × Addr)}, (∀ x ∈ pre, x.2.block ≠ g) → idxs (some ⟨g, 0, none⟩) pre = []
  | [], _ => rfl
  | x :: pre, h => by
    have := idx_other (g := g) (pre := pre) (fun y hy => h y (by simp [hy]))
    unfold idxs at *
    rw [List.filterMap_cons, this]
    have hx := h x (by simp)
    have : ¬ Option.map (fun x => x.block) (some (⟨g, 0, none⟩ : Addr)) = some x.2.block := fun q => hx (by cases q; rfl)
    rw [if_neg this]
theorem nmS_blk {g : Nat} {l : List IN} : ∀ x ∈ nmS (some ⟨g, 0, none⟩) l, x.2.block = g := fun x hx => by
  unfold nmS at hx
  rw [List.mem_flatMap] at hx
  obtain ⟨⟨y, i⟩, hy, hx⟩ := hx
  unfold nm1 at hx
  cases h : plI y with
  | none => rw [h] at hx; cases hx
  | some j =>
    rw [h] at hx
    simp only [List.mem_singleton] at hx
    subst hx
    rfl
theorem nmR_blk {g : Nat} {l : List LN} : ∀ x ∈ nmR (some ⟨g, 0, none⟩) l, x.2.block = g := fun x hx => by
  unfold nmR at hx
  rw [List.mem_map] at hx
  obtain ⟨i, hi, rfl⟩ := hx
  rfl
theorem RnS.done {f : Nat → Prop} {w3 : World} {base : Nat} {la ra : Option Addr} {l : List IN} {rows : List LN} {lc rc : Nat} {M : Int → Option Int} {W : World} (h : RnS f w3 base la ra l rows lc rc M (nmL la l ra rows) W) (h1 : 0 < l.length → ∃ g, la = some ⟨g, 0, none⟩) (h2 : 0 < rows.length → ∃ g, ra = some ⟨g, 0, none⟩) : W.ownsRow base 42 5 (.slice la l.length lc) l.length ((l.map (rnI M)).flatMap cIN) ∧ W.ownsRow base 28 2 (.slice ra rows.length rc) rows.length ((rows.map (rnL M)).flatMap cLN) := by
  have o1 := h.o1
  have o2 := h.o2
  unfold nmL at o1 o2
  rw [idxs_app] at o1 o2
  constructor
  · cases l with
    | nil => exact ⟨rfl, by
        have e : upd M ([].flatMap cIN) (idxs la (nmS la []) ++ idxs la (nmR ra rows)) = [] := List.eq_nil_of_length_eq_zero (by rw [upd_len]; rfl)
        rw [e] at o1
        exact o1.2⟩
    | cons x l' =>
      obtain ⟨g, rfl⟩ := h1 (by simp)
      have hr : idxs (some ⟨g, 0, none⟩) (nmR ra rows) = [] := by
        cases rows with
        | nil => rfl
        | cons y rows' =>
          obtain ⟨g2, rfl⟩ := h2 (by simp)
          refine idx_other fun z hz e => ?_
          have := nmR_blk z hz
          exact h.apart rfl (by rw [← e, this]; rfl)
      rw [hr, List.append_nil, updS0] at o1
      exact o1
  · cases rows with
    | nil => exact ⟨rfl, by
        have e : upd M ([].flatMap cLN) (idxs ra (nmS la l) ++ idxs ra (nmR ra [])) = [] := List.eq_nil_of_length_eq_zero (by rw [upd_len]; rfl)
        rw [e] at o2
        exact o2.2⟩
    | cons y rows' =>
      obtain ⟨g, rfl⟩ := h2 (by simp)
      have hl : idxs (some ⟨g, 0, none⟩) (nmS la l) = [] := by
        cases l with
        | nil => rfl
        | cons x l' =>
          obtain ⟨g2, rfl⟩ := h1 (by simp)
          refine idx_other fun z hz e => ?_
          have := nmS_blk z hz
          exact h.apart2 rfl (by rw [← e, this]; rfl)
      rw [hl, List.nil_append, updR0] at o2
      exact o2
theorem own_RnS {f : Nat → Prop} {w3 : World} {base : Nat} {la ra : Option Addr} {l : List IN} {rows : List LN} {lc rc : Nat} {M : Int → Option Int} {L : List (Int × Addr)} (hf : ∀ k, f k → k < w3.heap.size) : OwnFrom w3.heap.size (fun (pre : List (XN L)) W => RnS f w3 base la ra l rows lc rc M (pre.map (fun y => y.1)) W) := fun s A B row hs hg hr =>
  ⟨⟨hg.os.trans hs.kp.os, hg.tape.trans hs.kp.tape, hg.output.trans hs.kp.output, Nat.le_trans hs.kp.size hg.size, fun k hk hfk => (hg.block k (Nat.lt_of_lt_of_le hk hs.kp.size) (fun e => by have := (hr k e.symm).1; omega)).trans (hs.kp.block k hk hfk)⟩, own_grown hs.o1 hg (fun r e => (hr r e).2), own_grown hs.o2 hg (fun r e => (hr r e).2)⟩
theorem kpN_b {f : Nat → Prop} {la : Option Addr} {l : List IN} {w : World} (hf : ∀ k, f k → k < w.heap.size) (W : World) (q : Nat) (o o' : Obj) (hl : w.heap.size ≤ q) (h : W.heap[q]? = some o) (h1 : o.isCells = false) (h2 : o.isWalk = false) : KpN f la l W (W.putObj q o') := by
  refine ⟨⟨rfl, rfl, rfl, by simp [World.putObj], fun k _ hk => by have := hf k hk; simp [World.putObj, Array.getElem?_setIfInBounds]; omega⟩, fun ho i hi => ?_⟩
  have c := ho i hi
  unfold World.cell? at c ⊢
  by_cases e : (adr la (i * 5) 0).block = q
  · rw [e, h] at c
    cases o <;> simp_all [Obj.isCells]
  · have : (W.putObj q o').heap[(adr la (i * 5) 0).block]? = W.heap[(adr la (i * 5) 0).block]? := by
      simp [World.putObj, Array.getElem?_setIfInBounds]
      omega
    rw [this]
    exact c
theorem MpI.apart {w : World} {b n : Nat} {M : Int → Option Int} (h : MpI w b n M) {base e size m c : Nat} {a : Option Addr} {fl : List Value} (ho : w.ownsRow base e size (.slice a m c) m fl) (h0 : a.map (·.block) = some b) : False := by
  cases a with
  | none => cases h0
  | some ad =>
    have hk : (Value.slice (some ad) m c).ownBlock = some b := h0
    obtain ⟨_, _, cur, q⟩ := own_type ho hk
    obtain ⟨D, ⟨es, ck, h1, h1'⟩, h2, h3⟩ := h
    rw [h1] at q
    cases q
theorem opC_own {w : World} {base c : Nat} {la : Option Addr} {l : List IN} (h : w.ownsRow base 42 5 (.slice la l.length c) l.length (l.flatMap cIN)) (h1 : 0 < l.length → ∃ g, la = some ⟨g, 0, none⟩) : OpC la l w := fun i hi => by
  obtain ⟨g, rfl⟩ := h1 (by omega)
  have e : (l.flatMap cIN)[i * 5]? = some (.int .i64 l[i].op) := by
    obtain ⟨P, R, e1, e2⟩ : ∃ P R, l.flatMap cIN = P ++ (cIN l[i] ++ R) ∧ P.length = i * 5 := by
      refine ⟨(l.take i).flatMap cIN, (l.drop (i + 1)).flatMap cIN, ?_, ?_⟩
      · conv => lhs; rw [← List.take_append_drop i l, List.drop_eq_getElem_cons hi]
        rw [List.flatMap_append, List.flatMap_cons]
      · rw [flatN (K := 5) (fun _ => rfl), List.length_take, Nat.min_eq_left (by omega)]
    rw [e1, List.getElem?_append_right (by omega), e2, Nat.sub_self]
    rfl
  have := (own_cell0 h e).1
  simpa [adr] using this
theorem renumberT (w : World) (l : List IN) (rows : List LN) (la ra : Option Addr) (lc rc b n base : Nat) (M : Int → Option Int) (ho1 : w.ownsRow base 42 5 (.slice la l.length lc) l.length (l.flatMap cIN)) (ho2 : w.ownsRow base 28 2 (.slice ra rows.length rc) rows.length (rows.flatMap cLN)) (hI1 : AllI (l.flatMap cIN)) (hI2 : AllI (rows.flatMap cLN)) (hm : MpI w b n M) (hM : ∀ x v, M x = some v → oI64 v) : Calls Try.prog 39 #[.slice la l.length lc, .slice ra rows.length rc, .map (some b)] w fun e w' => e = .returned (.tuple #[]) ∧ w'.ownsRow base 42 5 (.slice la l.length lc) l.length ((l.map (rnI M)).flatMap cIN) ∧ w'.ownsRow base 28 2 (.slice ra rows.length rc) rows.length ((rows.map (rnL M)).flatMap cLN) ∧ Keep (fun k => la.map (·.block) ≠ some k ∧ ra.map (·.block) ≠ some k) w w' := by
  obtain ⟨h1, m1⟩ := own_at0 ho1
  obtain ⟨h2, m2⟩ := own_at0 ho2
  have hHL : ∀ k, la.map (·.block) = some k → k < w.heap.size := fun k e => by
    cases la with
    | none => cases e
    | some a => exact (own_type ho1 (k := k) e).2.1
  have hHR : ∀ k, ra.map (·.block) = some k → k < w.heap.size := fun k e => by
    cases ra with
    | none => cases e
    | some a => exact (own_type ho2 (k := k) e).2.1
  have H1 := hid h1
  have H2 := hid h2
  have HO1 := hid ho1
  have HO2 := hid ho2
  have HI1 := hid hI1
  have HI2 := hid hI2
  have HM := hid hm
  have HMM := hid hM
  clear ho1 ho2 hI1 hI2 hm hM h1 h2
  refine callsIn_wide (n := 3) |>.1 ?_
  refine callsIn_of_wp_marks Try.func39 rfl trivial ?_ rfl
  simp only [Try.ntmps39, List.size_toArray, List.length_cons, List.length_nil, Nat.reduceAdd, Nat.reduceSub, Array.replicate_succ, Array.replicate_zero, List.push_toArray, List.append_toArray, List.nil_append, List.cons_append]
  gi_wp2_with fail
  refine ⟨trivial, (callsIn_wide.2 (namedT _ la ra l.length rows.length lc rc)).mono ?_⟩
  rintro e w3 ⟨rfl, hw3⟩
  have BP : Blk w3 w.heap.size 69 #[.map (some b)] := by rw [hw3]; exact ((Blk.new _ _ _).kept (below_alloc _)).kept (below_alloc _)
  have B1 : Blk w3 (w.heap.size + 1) 22 #[.slice la l.length lc] := by rw [hw3]; exact (Blk.newAt (by simp)).kept (below_alloc _)
  have B2 : Blk w3 (w.heap.size + 1 + 1) 23 #[.slice ra rows.length rc] := by rw [hw3]; exact Blk.newAt (by simp)
  have hb3 : Hid (Below w.heap.size w w3) := hid (by rw [hw3]; exact blBy)
  have hs3 : w.heap.size + 3 ≤ w3.heap.size := by rw [hw3]; simp
  have e1 : (w.alloc (.cells #[.map (some b)] 69)).heap.size = w.heap.size + 1 := by simp
  rw [e1]
  clear hw3 e1
  replace HO1 := hid (own_kept HO1.out hb3.out)
  replace HO2 := hid (own_kept HO2.out hb3.out)
  replace HM := hid (HM.out.kept hb3.out)
  have hlo : ∀ k, la.map (·.block) = some k → k < w.heap.size := hHL
  have hro : ∀ k, ra.map (·.block) = some k → k < w.heap.size := hHR
  obtain ⟨f, hf⟩ : ∃ f : Nat → Prop, f = fun k => k < w3.heap.size ∧ la.map (·.block) ≠ some k ∧ ra.map (·.block) ≠ some k := ⟨_, rfl⟩
  have HFS : Hid (∀ k, f k → k < w3.heap.size) := hid fun k h => by rw [hf] at h; exact h.1
  have HFB : Hid (∀ k, w.heap.size ≤ k → k < w3.heap.size → f k) := hid fun k h1 h2 => by
    rw [hf]
    exact ⟨h2, fun e => by have := hlo k e; omega, fun e => by have := hro k e; omega⟩
  have HFN : Hid (∀ g, la.map (·.block) = some g ∨ ra.map (·.block) = some g → ¬ f g) := hid fun g h => by
    rw [hf]
    rintro ⟨_, q1, q2⟩
    rcases h with h | h
    · exact q1 h
    · exact q2 h
  have HFM : Hid (f b) := hid (by
    rw [hf]
    exact ⟨HM.out.lt, fun e => HM.out.apart HO1.out e, fun e => HM.out.apart HO2.out e⟩)
  have HKF : Hid (∀ W, Keep f w3 W → Keep (fun k => la.map (·.block) ≠ some k ∧ ra.map (·.block) ≠ some k) w W) := hid fun W h => by
    refine ⟨h.os.trans hb3.out.os, h.tape.trans hb3.out.tape, h.output.trans hb3.out.output, Nat.le_trans hb3.out.size h.size, fun k hk hq => ?_⟩
    refine (h.block k (Nat.lt_of_lt_of_le hk hb3.out.size) ?_).trans (hb3.out.block k hk)
    rw [hf]
    exact ⟨Nat.lt_of_lt_of_le hk hb3.out.size, hq.1, hq.2⟩
  have HST : Hid (RnS f w3 base la ra l rows lc rc M [] w3) := hid ⟨Keep.refl _ _, HO1.out, HO2.out⟩
  have HOP := hid (opC_own HO1.out H1.out)
  have hq1 : ∀ h : 0 < l.length, ∃ b o, la = some ⟨b, o, none⟩ := fun h => by obtain ⟨g, e⟩ := H1.out h; exact ⟨g, 0, e⟩
  have hq2 : ∀ h : 0 < rows.length, ∃ b o, ra = some ⟨b, o, none⟩ := fun h => by obtain ⟨g, e⟩ := H2.out h; exact ⟨g, 0, e⟩
  have HSEQ := hid (namedIn f w3 (3 - 1) (by omega) (w.heap.size + 1) (w.heap.size + 1 + 1) l rows la ra lc rc B1 B2 (HFB.out _ (by omega) (by omega)) (HFB.out _ (by omega) (by omega)) HOP.out hq1 hq2 m1 m2)
  clear hf hlo hro hq1 hq2 HO1 HO2 B1 B2
  gi_wp2_with fail
  refine wpIn_rangeFunc_ownH rfl (by omega) (gf := 44) (lb := #[.pointer (some ⟨w.heap.size + 1, 0, none⟩), .pointer (some ⟨w.heap.size + 1 + 1, 0, none⟩)]) rfl trivial cfNamed HSEQ.out KpN.trans (kpN_b HFS.out) (Below.refl _ _) (fun _ => rfl)
    (fun pre W' => RnS f w3 base la ra l rows lc rc M (pre.map (fun y => y.1)) W') (fun c pre W' => False) (own_RnS HFS.out) (fun c => ownFrom_pure _ _) HST.out
    (fun z a' W' => a' = { tmps := #[.slice la l.length lc, .slice ra rows.length rc, .map (some b), undef, undef, .pointer (some ⟨w.heap.size, 0, none⟩), undef, .pointer (some z.1.2), undef, undef, .slice la l.length lc, .slice ra rows.length rc, .func (.func 44) #[] #[.pointer (some ⟨w.heap.size + 1, 0, none⟩), .pointer (some ⟨w.heap.size + 1 + 1, 0, none⟩)], .int .i64 z.1.1, .pointer (some z.1.2), undef, undef, undef, undef, undef, undef, undef, undef, undef, undef, undef, undef], defers := [] }) (fun x a' => ownFrom_pure _ _)
    ?assign ?body ?done ?stop
  case assign =>
    rintro q pre z W' K hI hK
    dsimp only [encN] at hK ⊢
    gi_wp2
    exact hK _ _ (KeepsFrom.refl _ _) ⟨Keep.refl _ _, fun h => h⟩ hI rfl
  case body =>
    rintro q pre z a' W' hl ⟨r, hr⟩ hI rfl hlt
    have hD : Below W'.heap.size W' W'.drew := below_drew1 _
    have hID : RnS f w3 base la ra l rows lc rc M (pre.map (fun y => y.1)) W'.drew := ⟨kpBl hI.kp hD, own_kept hI.o1 hD, own_kept hI.o2 hD⟩
    obtain ⟨v, c0', hv, c1', HN, HY, hkv, hop⟩ := hID.step z.2 H1.out H2.out HI1.out HI2.out HMM.out HFN.out
    have c0 : W'.cell? z.1.2 = some (.int .i64 v) := c0'
    have c1 : W'.frozen? z.1.2 = false := c1'
    have BPW := BP.keep hI.kp (HFB.out _ (Nat.le_refl _) (by omega))
    have HMW := HM.out.keep hI.kp HFM.out
    obtain ⟨cc, HLK, hcc⟩ := HMW.look2 hv
    have xb := BPW.cellF
    have zb := BPW.lt
    have HL0 : (Instr.lookup 69 (.map (some b)) (.int .i64 v) true).run Try.prog W'.drew = .ok (.tuple #[.int .i64 cc, .bool (M v).isSome]) W'.drew := HLK _ rfl
    have HKD : Hid (KeepsFrom w3.heap.size W' W'.drew) := hid ⟨hD.size, fun k o h1 hk _ => hk⟩
    have HKpD : Hid (KpN f la l W' W'.drew) := hid ⟨Keep.ofBelow hD, fun h => h⟩
    have HNN := hid HN
    have HYY := hid HY
    have HKV := hid hkv
    have HOPP := hid hop
    have HCC := hid hcc
    clear HLK HN HY hkv hop hI hID HMW BPW c0' c1' hD hcc
    obtain ⟨⟨zo, za⟩, hz⟩ := z
    dsimp only at *
    cases q : M v with
    | none =>
      rw [q] at HL0
      have HF := hid (HNN.out q)
      have hL1 : (Instr.lookup 69 (.map (some b)) (.int .i64 v) true).run Try.prog W'.drew = .ok (.tuple #[.int .i64 cc, .bool false]) W'.drew := HL0
      clear HL0 HNN HYY HKV HOPP HCC q
      gi_wp2
      gi_region_with (fail)
      all_goals gi_wp2
      all_goals exact ⟨HKD.out, HKpD.out, by show RnS _ _ _ _ _ _ _ _ _ _ (List.map _ (_ ++ _)) _; rw [List.map_append]; exact HF.out⟩
    | some u =>
      rw [q] at HL0
      have hL1 : (Instr.lookup 69 (.map (some b)) (.int .i64 v) true).run Try.prog W'.drew = .ok (.tuple #[.int .i64 cc, .bool true]) W'.drew := HL0
      have er : rnN M v = cc := by unfold rnN; rw [q, HCC.out u q]; rfl
      rw [er] at HYY HKV HOPP
      clear HL0 HNN HCC q er
      gi_wp2
      gi_region_with (fail)
      all_goals gi_wp2
      all_goals exact ⟨HKD.out.trans ((KeepsOthers.setCell _ _ _).from _), KpN.trans HKpD.out ⟨HKV.out, HOPP.out⟩, by show RnS _ _ _ _ _ _ _ _ _ _ (List.map _ (_ ++ _)) _; rw [List.map_append]; exact HYY.out⟩
  case done =>
    rintro D xs W' hD hS hI hK
    rw [hS] at hI
    have HDN := hid (hI.done H1.out H2.out)
    have HKW := hid (HKF.out _ hI.kp)
    have hs3 : w3.heap.size ≤ W'.heap.size := hI.kp.size
    clear hS hI
    refine leave_all (base := w3.heap.size) 3 [D] _ ⟨by simp, fun E hE => by rw [List.mem_singleton] at hE; subst hE; exact ⟨hD, hK⟩⟩ hs3 (fun W2 hW2 => ?_)
    refine ⟨.tuple #[], by simp [results, Try.results39, go_sem], rfl, ?_, ?_, ?_⟩
    · exact own_keep (f := fun k => k < w3.heap.size) HDN.out.1 (fun k hk => by have := hHL k (by cases la with | none => cases hk | some a => exact hk); omega) ⟨hW2.os, hW2.tape, hW2.output, hW2.size, fun k hk hf => hW2.block k hf⟩
    · exact own_keep (f := fun k => k < w3.heap.size) HDN.out.2 (fun k hk => by have := hHR k (by cases ra with | none => cases hk | some a => exact hk); omega) ⟨hW2.os, hW2.tape, hW2.output, hW2.size, fun k hk hf => hW2.block k hf⟩
    · exact ⟨hW2.os.trans HKW.out.os, hW2.tape.trans HKW.out.tape, hW2.output.trans HKW.out.output, Nat.le_trans HKW.out.size hW2.size, fun k hk hf => (hW2.block k (by omega)).trans (HKW.out.block k hk hf)⟩
  case stop =>
    rintro D c pre W' hD hSp hF hK
    exact hF.elim
end Go.Proofs.Ytliohglpbmpbhaa
