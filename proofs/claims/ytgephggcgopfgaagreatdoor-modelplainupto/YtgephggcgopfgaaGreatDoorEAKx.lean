/-
  Those of a list that are so; whether all are so; the first one that is so.
  Get, Clear: what the program answers.
  Depth, Get: what the document answers.
  Get: what the document answers.
  The messages of a field, one by one, where what is done with them writes.
  Settle: what the program answers.
  Settle: what the program answers.
  Settle.
  Settling: what the document does to a field is what the program does; normal is: settling changes nothing.
  What is settled: it is typed, it stays, it is not deeper.
  A field put into a message: it is there, and put in again it changes nothing.
  Settling and setting: what the laws ask.
  The document's Put.
  The document's Others.
  What is chosen of fields, in a row of one's own.
  slices.Insert of one field, wherever it goes.
  with: a message with a field at its place.
  The document's Typed, where that of the messages within is known.
  The document's Typed, at every depth.
  The document's Set.
  Set: what the program answers.
  How deep a message is, as the walk reckons it.
-/
import Derived.Test.YtgephggcgopfgaaGreatDoorCTA
import Derived.Test.YtgephggcgopfgaaGreatDoorCTG
import Derived.Test.YtgephggcgopfgaaGreatDoorCAA
import Derived.Test.YtgephggcgopfgaaGreatDoorCAG
import Derived.Test.YtgephggcgopfgaaGreatDoorShelf
import Derived.Test.YtgephggcgopfgaaGreatDoorCTP
import Derived.Test.YtgephggcgopfgaaGreatDoorCTY
import Derived.Test.YtgephggcgopfgaaGreatDoorCAP
import Derived.Test.YtgephggcgopfgaaGreatDoorCB
import Derived.Test.YtgephggcgopfgaaGreatDoorCCC
import Derived.Test.YtgephggcgopfgaaGreatDoorCCE
import Derived.Test.YtgephggcgopfgaaGreatDoorCAW
import Derived.Test.YtgephggcgopfgaaGreatDoorCAO
import Derived.Test.YtgephggcgopfgaaGreatDoorCBE
import Derived.Test.YtgephggcgopfgaaGreatDoorCw8WO
import Derived.Test.YtgephggcgopfgaaGreatDoorCCH
import Derived.Test.YtgephggcgopfgaaGreatDoorCND
import Derived.Test.YtgephggcgopfgaaGreatDoorCNA2
import Derived.Test.YtgephggcgopfgaaGreatDoorNF
import Derived.Test.YtgephggcgopfgaaGreatDoorCNG
import Derived.Test.YtgephggcgopfgaaGreatDoorCI
import Derived.Test.YtgephggcgopfgaaGreatDoorCCJ
import Derived.Maps.RangeWalk
import Derived.Laws.CopyRow
import Derived.Laws.CopyOwn
import Derived.Lib.AppendZerosOnto
import Derived.Lib.AppendZeros
import Derived.Lib.Overlaps
import Derived.Shelf.RegionOpenPlain
import Derived.Deep.RegionHeld3
import Derived.Deep.CutRange
namespace Go.Proofs.YtgephggcgopfgaaGreatDoor
open Go.RowKit
set_option maxRecDepth 1000000
set_option linter.unusedVariables false
set_option linter.unusedSimpArgs false
set_option maxHeartbeats 1000000
theorem chosenF (w : World) (Z : Nat → Prop) (d : Nat) (xs : List (CF CM)) (a : Option Addr) (c : Nat) (h : FlsR w Z d (.slice a xs.length c) xs) (fn : FuncId) (caps : Array Value) (hcf : ∀ (args : Array Value) (W : World), (callFunc fn args).run Tryz.prog W = .ok (.enter fn args) W) (P : CF CM → Bool)
    (hf : ∀ (W : World), Below w.heap.size w W → ∀ (cs : List Value) (x : CF CM), x ∈ xs → FmF d W Z cs x → Calls Tryz.prog fn (#[.agg cs.toArray] ++ caps) W fun e w' => e = .returned (.bool (P x)) ∧ Below W.heap.size W w') : Calls Tryz.prog 66 #[.slice a xs.length c, .func (.func fn) #[] caps] w fun e w' => ∃ a' c', e = .returned (.slice a' (xs.filter P).length c') ∧ RowM w' (fun b => Z b ∨ w.heap.size ≤ b) 3 (FmF d w' (fun b => Z b ∨ w.heap.size ≤ b)) (.slice a' (xs.filter P).length c') (xs.filter P) ∧ Below w.heap.size w w' := by
  obtain ⟨_, _, e1, l1⟩ := RowM.sl h
  clear e1
  have m1 : (xs.length : Int) ≤ 9223372036854775807 := by omega
  have H1 := hid h
  have HF := hid hf
  clear h hf
  go_enter Tryz.func66, Tryz.ntmps66
  go_wp2
  go_loopw [5, 10] (fun s5 s10 wr => ∃ (j n : Nat) (oa : Option Addr) (oc : Nat), s5 = .slice oa n oc ∧ s10 = .int .i64 j ∧ j ≤ xs.length ∧ Hid (((xs.take j).filter P).length = n) ∧ Hid (OwnA wr w.heap.size Z 29 3 (FmF d) (.slice oa n oc) ((xs.take j).filter P)) ∧ Hid (Below w.heap.size w wr)) (fun s5 s10 wr => xs.length - numAt wr s10)
  case atStart => exact ⟨0, 0, none, 0, rfl, rfl, by omega, hid rfl, hid (OwnA.nil _ _ _ _ _ _), hid (Below.refl _ _)⟩
  case round =>
    obtain ⟨j, n, oa, oc, rfl, rfl, hj, HLN, HO, hb⟩ := hrel
    by_cases hlt : j < xs.length
    · have k2 : (j : Int) < (xs.length : Int) := by omega
      obtain ⟨b1, o1, ka1, kc1, va1, vc1, rfl, -, hb1, c0, c1, c2, he⟩ := fls_at H1.out hlt
      have HE := hid he
      have HTK : Hid ((xs.take (j + 1)).filter P = (xs.take j).filter P ++ (if P xs[j] = true then [xs[j]] else [])) := hid (by rw [List.take_succ_eq_append_getElem hlt, List.filter_append]; simp only [List.filter_cons, List.filter_nil])
      have HME := hid (List.getElem_mem hlt)
      have HLB : Hid (n ≤ 4000000) := hid (by rw [← HLN.out]; exact fl_len l1 j)
      replace c0 := cell_below c0 hb.out
      replace c1 := cell_below c1 hb.out
      replace c2 := cell_below c2 hb.out
      replace hb1 : b1 < wr.heap.size := World.block_lt_of_cell? _ _ c0
      clear he
      generalize xs[j] = x at *
      go_wp2_with fail
      refine (HF.out _ (by have := hb.out; exact blBy) [.int .i64 x.num, .slice ka1 x.ks.length kc1, .slice va1 x.vs.length vc1] x HME.out (Fam.go (famF d) HE.out (keepT (by have := hb.out; exact blBy)) (fun _ _ => trivial) (fun _ h => h))).mono ?_
      rintro e w1 ⟨rfl, hbx⟩
      have Bx : Blk w1 wr.heap.size 29 #[.int .i64 x.num, .slice ka1 x.ks.length kc1, .slice va1 x.vs.length vc1] := (Blk.new _ _ _).kept hbx
      have HO1 := hid (HO.out.kept (famF d) (below_trans (below_alloc _) hbx))
      have hbw : Hid (Below w.heap.size w w1) := hid (bl_then (by have := hb.out; exact blBy) hbx)
      clear hbx HO c0 c1 c2
      cases hq : P x with
      | false =>
        rw [hq, if_neg (by simp), List.append_nil] at HTK
        go_wp2
        exact ⟨⟨j + 1, n, oa, oc, rfl, by simp, by omega, hid (by rw [HTK.out]; exact HLN.out), hid (by rw [HTK.out]; exact HO1.out), hbw⟩, by simp [numAt]; omega⟩
      | true =>
        rw [hq, if_pos rfl] at HTK
        have HZ : Hid (FmF d w1 (ZofA w1 Z (.slice oa n oc)) [.int .i64 x.num, .slice ka1 x.ks.length kc1, .slice va1 x.vs.length vc1] x) := hid (zofA_old (famF d) HO1.out HE.out hbw.out)
        obtain ⟨la, lc, x1, HRUN, HO2, HG⟩ := OwnA.push (famF d) 29 32 56 (.agg #[.int .i64 0, .slice none 0 0, .slice none 0 0]) Tryz.underlying32 Tryz.infoF rfl (by decide) (by decide) HO1.out HZ.out hbw.out.size (by rw [HLN.out]; exact HLB.out)
        rw [HLN.out] at HRUN HO2 HG
        have hb2 : Hid (Below w.heap.size w x1) := hid (hbw.out.trans (HO1.out.bel HG.out (Nat.le_refl _) hbw.out.size))
        have xx := Bx.cellF
        have zx := Bx.lt
        go_wp2_with (first | (at_builtin; refine wpList_append_ran rfl _ _ 32 32 rfl rfl _ _ (.slice la (n + 1) lc) x1 rfl rfl HRUN.out ?_))
        exact ⟨⟨j + 1, n + 1, la, lc, rfl, by simp, by omega, hid (by rw [HTK.out, List.length_append, HLN.out]; rfl), hid (by rw [HTK.out]; exact HO2.out), hb2⟩, by simp [numAt]; omega⟩
    · have k2 : ¬ (j : Int) < (xs.length : Int) := by omega
      have e1 : xs.take j = xs := List.take_of_length_le (by omega)
      rw [e1] at HO HLN
      have HRW := hid (HO.out.row (famF d) (fl_le l1))
      rw [← HLN.out] at HRW ⊢
      clear e1 HLN HO
      go_wp2
      go_ret
      exact ⟨oa, oc, rfl, HRW.out, hb.out⟩
end Go.Proofs.YtgephggcgopfgaaGreatDoor
namespace Go.Proofs.YtgephggcgopfgaaGreatDoor
open Go.RowKit
set_option maxRecDepth 1000000
set_option linter.unusedVariables false
set_option linter.unusedSimpArgs false
set_option maxHeartbeats 1000000
def isN (n : Int) (x : CF CM) : Bool := decide (x.num = n)
theorem getFn (w : World) (Z : Nat → Prop) (d : Nat) (cs : List Value) (x : CF CM) (h : FmF d w Z cs x) (p : Nat) (n : Int) (hp : Blk w p 3 #[.int .i64 n]) : Calls Tryz.prog 54 #[.agg cs.toArray, .pointer (some ⟨p, 0, none⟩)] w fun e w' => e = .returned (.bool (isN n x)) ∧ Below w.heap.size w w' := by
  obtain ⟨ka, kc, va, vc, rfl, -⟩ := fld_open h
  have xp := hp.cellF
  have zp := hp.lt
  clear h hp
  go_enter Tryz.func54, Tryz.ntmps54
  go_wp2
  go_ret
  exact ⟨ret_bool (by unfold isN; by_cases q : x.num = n <;> simp [q]), by exact blBy⟩
theorem clearFn (w : World) (Z : Nat → Prop) (d : Nat) (cs : List Value) (x : CF CM) (h : FmF d w Z cs x) (p : Nat) (n : Int) (hp : Blk w p 3 #[.int .i64 n]) : Calls Tryz.prog 65 #[.agg cs.toArray, .pointer (some ⟨p, 0, none⟩)] w fun e w' => e = .returned (.bool (notN n x)) ∧ Below w.heap.size w w' := by
  obtain ⟨ka, kc, va, vc, rfl, -⟩ := fld_open h
  have xp := hp.cellF
  have zp := hp.lt
  clear h hp
  go_enter Tryz.func65, Tryz.ntmps65
  go_wp2
  go_ret
  exact ⟨ret_bool (by unfold notN; by_cases q : x.num = n <;> simp [q]), by exact blBy⟩
theorem cfGet (args : Array Value) (W : World) : (callFunc 54 args).run Tryz.prog W = .ok (.enter 54 args) W := cf_enter Tryz.func54 (by kernel_rfl) (by kernel_rfl) args W
theorem cfClear (args : Array Value) (W : World) : (callFunc 65 args).run Tryz.prog W = .ok (.enter 65 args) W := cf_enter Tryz.func65 (by kernel_rfl) (by kernel_rfl) args W
theorem fieldRun (s u : Value) (W : World) (hs : s.cells = #[s]) : (Instr.field 35 (.agg #[s, u]) 0).run Tryz.prog W = .ok s W := by
  simp [Instr.field, part, asAgg, go_sem]
def cfZ : CF CM := ⟨0, [], []⟩
/-- A field, and whether it is there. -/
def GetR (d : Nat) (w : World) (o : Option (CF CM)) (e : Ending) (w' : World) : Prop := ∃ cs : List Value, e = .returned (.tuple #[.agg cs.toArray, .bool o.isSome]) ∧ FmF d w' (w.heap.size ≤ ·) cs (o.getD cfZ) ∧ Below w.heap.size w w'
theorem getT (d : Nat) (w : World) (Z : Nat → Prop) (cs : List Value) (m : CM) (h : MsgE w Z (d + 1) cs m) (n : Int) : Calls Tryz.prog 24 #[.agg cs.toArray, .int .i64 n] w (GetR d w (m.fs.find? (isN n))) := by
  obtain ⟨ka, kc, va, vc, rfl, g, q, l1, -⟩ := msg_open h
  have HI := hid fun W (hW : Below w.heap.size w W) (p : Nat) (hp : Blk W p 3 #[.int .i64 n]) => idxFld W Z d m.fs ka kc (g.kept hW) 54 #[.pointer (some ⟨p, 0, none⟩)] cfGet (isN n) (fun W' hW' cs x _ hx => getFn W' Z d cs x hx p n (hp.kept hW'))
  have G := hid g
  have LC := RowM.cap g
  have LC1 : (m.fs.length : Int) ≤ (kc : Int) := by omega
  have LC2 : (kc : Int) ≤ 9223372036854775807 := by omega
  clear h g q
  go_enter Tryz.func24, Tryz.ntmps24
  go_wp2_with fail
  refine (HI.out _ (by exact blBy) _ ((Blk.newAt (by simp)).kept (below_alloc _))).mono ?_
  rintro e w1 ⟨rfl, hbx⟩
  have Bx : Blk w1 w.heap.size 35 #[.slice ka m.fs.length kc, .slice va m.us.length vc] := (((Blk.new _ _ _).kept (below_alloc _)).kept (below_alloc _)).kept hbx
  have Br : Blk w1 (w.heap.size + 1 + 1) 29 #[.int .i64 0, .slice none 0 0, .slice none 0 0] := (Blk.newAt (by simp)).kept hbx
  have hbz : Hid (Below w.heap.size w w1) := hid (bl_then (by exact blBy) hbx)
  clear hbx HI
  have xx := Bx.cellF
  have zx := Bx.lt
  have xr := Br.cellF
  have yr := Br.frz
  have zr := Br.lt
  rcases fnd_find (isN n) m.fs 0 with ⟨h1, h2⟩ | ⟨j, hj, h1, h2⟩
  · have H2 := hid h2
    generalize fnd (isN n) m.fs 0 = i at *
    have k0 : (i < 0) = True := eq_true h1
    clear h1 h2
    go_wp2
    exact bodyPost_ret (v := .tuple #[.agg #[.int .i64 0, .slice none 0 0, .slice none 0 0], .bool false]) (by simp [results, Tryz.results24, go_sem, xr, zr, yr]) rfl ⟨[.int .i64 0, .slice none 0 0, .slice none 0 0], by rw [H2.out]; rfl, by rw [H2.out]; exact ⟨_, _, rfl, RowM.nil _ _ _ _, RowM.nil _ _ _ _, by constructor <;> decide⟩, by have := hbz.out; exact blBy⟩
  · have H2 := hid h2
    rw [h1, Nat.zero_add]
    have k0 : ((j : Int) < 0) = False := eq_false (by omega)
    have k1 : (j : Int) < (m.fs.length : Int) := by omega
    have k2 : (j : Int) + 1 ≤ (m.fs.length : Int) := by omega
    clear h1 h2
    obtain ⟨b1, o1, _, _, _, _, rfl, -⟩ := fls_at G.out hj
    have HSB : Hid (∀ W, Below w.heap.size w W → MsgE W Z (d + 1) [.slice (some ⟨b1, o1 + j * 3, none⟩) 1 (kc - j), .slice none 0 0] (CM.mk [m.fs[j]] [])) := hid fun W hW => ⟨_, _, rfl, RowM.sub (G.out.kept hW) (by decide) hj (by omega) (by omega), RowM.nil _ _ _ _⟩
    generalize m.fs[j] = x at *
    go_wp2_with fail
    refine (copyT (d + 1) _ Z [.slice (some ⟨b1, o1 + j * 3, none⟩) 1 (kc - j), .slice none 0 0] (CM.mk [x] []) (HSB.out _ hbz.out)).mono ?_
    rintro e w2 ⟨ds, rfl, hn, hbx⟩
    obtain ⟨fa, fc, ua, uc, rfl, g1, -⟩ := msg_open hn
    obtain ⟨b2, o2, pa, pc, qa, qc, hfa, hz2, hb2, c0, c1, c2, he⟩ := fls_at g1 (i := 0) (by simp [CM.fs])
    subst hfa
    replace Br := Br.kept hbx
    have hne : b2 ≠ w.heap.size + 1 + 1 := by
      have hz3 : w1.heap.size ≤ b2 := hz2
      omega
    have d0 : w2.cell? ⟨b2, o2, none⟩ = some (.int .i64 x.num) := by simpa [CM.fs] using c0
    have d1 : w2.cell? ⟨b2, o2 + 1, none⟩ = some (.slice pa x.ks.length pc) := by simpa [CM.fs] using c1
    have d2 : w2.cell? ⟨b2, o2 + 2, none⟩ = some (.slice qa x.vs.length qc) := by simpa [CM.fs] using c2
    have HN : Hid (FmF d w2 (w.heap.size + 3 ≤ ·) [.int .i64 x.num, .slice pa x.ks.length pc, .slice qa x.vs.length qc] x) := hid ((famF d).go he (Keep.refl (fun _ => True) w2) (fun _ _ => trivial) (fun k hk => by have hk2 : w1.heap.size ≤ k := hk; omega))
    have hby : Hid (Below w.heap.size w w2) := hid (bl_then hbz.out hbx)
    clear c0 c1 c2 he hn g1 hz2 xx zx xr yr zr hbx hbz HSB
    have xr := Br.cellF
    have yr := Br.frz
    have zr := Br.lt
    have ef : (CM.mk [x] []).fs.length = 1 := rfl
    have eu : (CM.mk [x] []).us.length = 0 := rfl
    rw [ef, eu]
    have HFD := fieldRun (.slice (some ⟨b2, o2, none⟩) 1 fc) (.slice ua 0 uc) w2 rfl
    go_wp2
    exact bodyPost_ret (v := .tuple #[.agg #[.int .i64 x.num, .slice pa x.ks.length pc, .slice qa x.vs.length qc], .bool true]) (by simp [results, Tryz.results24, go_sem, xr, zr, yr]) rfl ⟨[.int .i64 x.num, .slice pa x.ks.length pc, .slice qa x.vs.length qc], by rw [H2.out]; rfl, by rw [H2.out]; exact (famF d).go HN.out (f := (w.heap.size + 3 ≤ ·)) (by with_reducible repeat (first | exact Keep.refl _ _ | refine kpS ?_ (by first | (simp; done) | (simp; omega) | omega) | refine kpA ?_ _ | refine kpD ?_ | refine kpN ?_ _)) (fun _ h => h) (fun k hk => by omega), by have := hby.out; exact blBy⟩
theorem clearT (d : Nat) (w : World) (Z : Nat → Prop) (cs : List Value) (m : CM) (h : MsgE w Z (d + 1) cs m) (n : Int) : Calls Tryz.prog 31 #[.agg cs.toArray, .int .i64 n] w (NewE (FmM (d + 1)) w (CM.mk (m.fs.filter (notN n)) m.us)) := by
  obtain ⟨ka, kc, va, vc, rfl, g, q, l1, -⟩ := msg_open h
  have HI : Hid (∀ W, Below w.heap.size w W → ∀ p, Blk W p 3 #[.int .i64 n] → Calls Tryz.prog 66 #[.slice ka m.fs.length kc, .func (.func 65) #[] #[.pointer (some ⟨p, 0, none⟩)]] W fun e w' => ∃ a' c', e = .returned (.slice a' (m.fs.filter (notN n)).length c') ∧ RowM w' AnyZ 3 (FmF d w' AnyZ) (.slice a' (m.fs.filter (notN n)).length c') (m.fs.filter (notN n)) ∧ Below W.heap.size W w') := hid fun W hW p hp => (chosenF W Z d m.fs ka kc (g.kept hW) 65 #[.pointer (some ⟨p, 0, none⟩)] cfClear (notN n) (fun W' hW' cs x _ hx => clearFn W' Z d cs x hx p n (hp.kept hW'))).mono (by rintro e w' ⟨a', c', he, hr, hb⟩; exact ⟨a', c', he, FlsR.go hr (Keep.refl (fun _ => True) w') (fun _ _ => trivial) (fun _ _ => (trivial : AnyZ _)), hb⟩)
  have HU := hid fun W (hW : Below w.heap.size w W) => EnsR.go q (keepT hW) (fun _ _ => trivial) (fun _ _ => (trivial : AnyZ _))
  clear h g q
  go_enter Tryz.func31, Tryz.ntmps31
  go_upto_region 2 with fail
  have Bx : Blk (((w.alloc (.cells #[.slice ka m.fs.length kc, .slice va m.us.length vc] 35)).alloc (.cells #[.int .i64 n] 3)).alloc (.cells #[.slice none 0 0, .slice none 0 0] 35)) w.heap.size 35 #[.slice ka m.fs.length kc, .slice va m.us.length vc] := ((Blk.new _ _ _).kept (below_alloc _)).kept (below_alloc _)
  have Bn : Blk (((w.alloc (.cells #[.slice ka m.fs.length kc, .slice va m.us.length vc] 35)).alloc (.cells #[.int .i64 n] 3)).alloc (.cells #[.slice none 0 0, .slice none 0 0] 35)) (w.heap.size + 1) 3 #[.int .i64 n] := (Blk.newAt (by simp)).kept (below_alloc _)
  have Br : Blk (((w.alloc (.cells #[.slice ka m.fs.length kc, .slice va m.us.length vc] 35)).alloc (.cells #[.int .i64 n] 3)).alloc (.cells #[.slice none 0 0, .slice none 0 0] 35)) (w.heap.size + 1 + 1) 35 #[.slice none 0 0, .slice none 0 0] := Blk.newAt (by simp)
  have HB : Hid (Below w.heap.size w (((w.alloc (.cells #[.slice ka m.fs.length kc, .slice va m.us.length vc] 35)).alloc (.cells #[.int .i64 n] 3)).alloc (.cells #[.slice none 0 0, .slice none 0 0] 35))) := hid (by exact blBy)
  have HS : Hid (w.heap.size + 3 ≤ (((w.alloc (.cells #[.slice ka m.fs.length kc, .slice va m.us.length vc] 35)).alloc (.cells #[.int .i64 n] 3)).alloc (.cells #[.slice none 0 0, .slice none 0 0] 35)).heap.size) := hid (by simp)
  generalize (((w.alloc (.cells #[.slice ka m.fs.length kc, .slice va m.us.length vc] 35)).alloc (.cells #[.int .i64 n] 3)).alloc (.cells #[.slice none 0 0, .slice none 0 0] 35)) = W at *
  have f0 : W.cell? ⟨w.heap.size, 0, none⟩ = some (.slice ka m.fs.length kc) := Bx.cell 0 _ rfl
  have f1 : W.cell? ⟨w.heap.size, 1, none⟩ = some (.slice va m.us.length vc) := Bx.cell 1 _ rfl
  have hp1 : w.heap.size ≠ w.heap.size + 1 + 1 := by omega
  have HBn := hid Bn
  have xr := Br.cellF
  have yr := Br.frz
  have zr := Br.lt
  clear Bx Bn
  go_region_held3 (fun W => W.cell? ⟨w.heap.size, 0, none⟩ = some (.slice ka m.fs.length kc) ∧ W.cell? ⟨w.heap.size, 1, none⟩ = some (.slice va m.us.length vc)) (first | exact ⟨f0, f1⟩ | exact ⟨cs2 f0 hp1, cs2 f1 hp1⟩) (first | (go_at_call 66; refine (HI.out _ (by have := HB.out; exact blBy) _ (HBn.out.kept (by first | exact Below.refl _ _ | exact below_drew1 _ | exact below_drewN _ _))).mono ?_; rintro e w2 ⟨a1, c1, rfl, hn, hbx⟩; replace f0 := cell_below f0 (below_trans (by first | exact Below.refl _ _ | exact below_drew1 _ | exact below_drewN _ _) hbx); replace f1 := cell_below f1 (below_trans (by first | exact Below.refl _ _ | exact below_drew1 _ | exact below_drewN _ _) hbx); replace Br := Br.kept (below_trans (by first | exact Below.refl _ _ | exact below_drew1 _ | exact below_drewN _ _) hbx); replace xr := Br.cellF; replace yr := Br.frz; replace zr := Br.lt; replace HB := hid (below_trans HB.out (below_trans (by first | exact Below.refl _ _ | exact below_drew1 _ | exact below_drewN _ _) hbx)); have H1 : Hid (FlsR w2 AnyZ d (.slice a1 (m.fs.filter (notN n)).length c1) (m.fs.filter (notN n))) := hid hn; replace HS := hid (Nat.le_trans HS.out (Below.size (below_trans (by first | exact Below.refl _ _ | exact below_drew1 _ | exact below_drewN _ _) hbx))); clear hn hbx) | (go_at_call 28; refine (copyT (d + 1) _ AnyZ [.slice a1 (m.fs.filter (notN n)).length c1, .slice va m.us.length vc] (CM.mk (m.fs.filter (notN n)) m.us) ⟨_, _, rfl, H1.out.kept (by first | exact Below.refl _ _ | exact below_drew1 _ | exact below_drewN _ _), HU.out _ (by have := HB.out; exact blBy)⟩).mono ?_; rintro e w3 ⟨ds, rfl, hn, hbx⟩; replace f0 := cell_below f0 (below_trans (by first | exact Below.refl _ _ | exact below_drew1 _ | exact below_drewN _ _) hbx); replace f1 := cell_below f1 (below_trans (by first | exact Below.refl _ _ | exact below_drew1 _ | exact below_drewN _ _) hbx); replace Br := Br.kept (below_trans (by first | exact Below.refl _ _ | exact below_drew1 _ | exact below_drewN _ _) hbx); replace xr := Br.cellF; replace yr := Br.frz; replace zr := Br.lt; replace HB := hid (below_trans HB.out (below_trans (by first | exact Below.refl _ _ | exact below_drew1 _ | exact below_drewN _ _) hbx)); have H2 : Hid (MsgE w3 (w.heap.size + 3 ≤ ·) (d + 1) ds (CM.mk (m.fs.filter (notN n)) m.us)) := hid (MsgE.go (Keep.refl (fun _ => True) w3) (fun _ _ => trivial) (fun k hk => Nat.le_trans HS.out hk) (d + 1) _ _ hn); obtain ⟨fa, fc, ua, uc, rfl, -⟩ := msg_openD H2.out; clear hn hbx))
  all_goals go_wp2
  all_goals exact bodyPost_ret (v := .agg #[.slice fa (m.fs.filter (notN n)).length fc, .slice ua m.us.length uc]) (by simp [results, Tryz.results31, go_sem, xr, zr, yr, CM.fs, CM.us]) rfl (NewE.mk [.slice fa (m.fs.filter (notN n)).length fc, .slice ua m.us.length uc] (MsgE.go (f := (w.heap.size + 3 ≤ ·)) (by with_reducible repeat (first | exact Keep.refl _ _ | refine kpS ?_ (by first | (simp; done) | (simp; omega) | omega) | refine kpA ?_ _ | refine kpD ?_ | refine kpN ?_ _)) (fun _ h => h) (fun k hk => by omega) (d + 1) _ _ H2.out) (by have := HB.out; exact blBy))
end Go.Proofs.YtgephggcgopfgaaGreatDoor
namespace Go.Proofs.YtgephggcgopfgaaGreatDoor
open Go.RowKit
set_option maxRecDepth 1000000
set_option linter.unusedVariables false
set_option linter.unusedSimpArgs false
set_option maxHeartbeats 2000000
/-- The greatest of a list, and of a number. -/
def mxL {α : Type} (f : α → Nat) (a : Nat) (l : List α) : Nat := l.foldl (fun a x => max a (f x)) a
def depVs (dm : CM → Nat) (a : Nat) (l : List (CV CM)) : Nat := l.foldl (fun a v => mxL dm a v.ms) a
/-- How deep, so far down. -/
def depM : Nat → CM → Nat
  | 0, _ => 0
  | d + 1, m => m.fs.foldl (fun a f => max (max a (depVs (depM d) 0 f.ks)) (depVs (depM d) 0 f.vs)) 0 + 1
theorem mxL_le {α : Type} {f : α → Nat} {b : Nat} : ∀ {l : List α} {a : Nat}, a ≤ b → (∀ x ∈ l, f x ≤ b) → mxL f a l ≤ b
  | [], a, ha, _ => ha
  | x :: r, a, ha, h => by
    show mxL f (max a (f x)) r ≤ b
    exact mxL_le (Nat.max_le.2 ⟨ha, h x List.mem_cons_self⟩) (fun y hy => h y (List.mem_cons_of_mem _ hy))
theorem depVs_le {dm : CM → Nat} {b : Nat} (hd : ∀ m, dm m ≤ b) : ∀ {l : List (CV CM)} {a : Nat}, a ≤ b → depVs dm a l ≤ b
  | [], a, ha => ha
  | v :: r, a, ha => by
    show depVs dm (mxL dm a v.ms) r ≤ b
    exact depVs_le hd (mxL_le ha (fun m _ => hd m))
theorem depFs_le {dm : CM → Nat} {b : Nat} (hd : ∀ m, dm m ≤ b) : ∀ {l : List (CF CM)} {a : Nat}, a ≤ b → l.foldl (fun a f => max (max a (depVs dm 0 f.ks)) (depVs dm 0 f.vs)) a ≤ b
  | [], a, ha => ha
  | f :: r, a, ha => by
    rw [List.foldl_cons]
    exact depFs_le hd (Nat.max_le.2 ⟨Nat.max_le.2 ⟨ha, depVs_le hd (Nat.zero_le _)⟩, depVs_le hd (Nat.zero_le _)⟩)
theorem depM_le : ∀ (d : Nat) (m : CM), depM d m ≤ d
  | 0, _ => Nat.le_refl _
  | d + 1, m => by
    unfold depM
    exact Nat.succ_le_succ (depFs_le (depM_le d) (Nat.zero_le _))
def DpAt (d : Nat) : Prop := ∀ (w : World) (Z : Nat → Prop) (cs : List Value) (m : CM), MsgE w Z d cs m → Calls Tryz.prog 29 #[.agg cs.toArray] w fun e w' => e = .returned (.int .i64 (depM d m)) ∧ Below w.heap.size w w'
theorem depthsDR8 (d : Nat) (hd : d ≤ 4000000) (HD : DpAt d) (w : World) (Z : Nat → Prop) (xs : List (CV CM)) (a : Option Addr) (c : Nat) (h : VlsR w Z d (.slice a xs.length c) xs) : Calls Tryz.prog 63 #[.slice a xs.length c] w fun e w' => e = .returned (.int .i64 (depVs (depM d) 0 xs)) ∧ Below w.heap.size w w' := by
  obtain ⟨_, _, e1, l1⟩ := RowM.sl h
  clear e1
  have m1 : (xs.length : Int) ≤ 9223372036854775807 := by omega
  have H1 := hid h
  replace HD := hid HD
  clear h
  go_enter Tryz.func63, Tryz.ntmps63
  go_wp2
  go_loopw [3, 4] (fun s3 s4 wr => ∃ (j r : Nat), s3 = .int .i64 r ∧ s4 = .int .i64 j ∧ j ≤ xs.length ∧ r ≤ d ∧ Hid (depVs (depM d) 0 xs = depVs (depM d) r (xs.drop j)) ∧ Hid (Below w.heap.size w wr)) (fun s3 s4 wr => xs.length - numAt wr s4)
  case atStart => exact ⟨0, 0, rfl, rfl, by omega, by omega, hid rfl, hid (Below.refl _ _)⟩
  case round =>
    obtain ⟨j, r, rfl, rfl, hj, hr, HA, hb⟩ := hrel
    by_cases hlt : j < xs.length
    · have k2 : (j : Int) < (xs.length : Int) := by omega
      obtain ⟨b1, o1, ka1, kc1, va1, vc1, rfl, -, hb1, c0, c1, c2, he⟩ := vls_at H1.out hlt
      obtain ⟨_, _, _, _, e1, -, q1, -, ml1, -⟩ := val_open he
      simp only [List.cons.injEq, Value.slice.injEq, true_and, and_true] at e1
      obtain ⟨⟨rfl, rfl⟩, rfl, rfl⟩ := e1
      have Q := hid q1
      have C2 := hid c2
      have HST : Hid (depVs (depM d) r (xs.drop j) = depVs (depM d) (mxL (depM d) r xs[j].ms) (xs.drop (j + 1))) := hid (by rw [List.drop_eq_getElem_cons hlt]; rfl)
      clear c0 c1 c2 he q1
      generalize xs[j] = x at *
      have ml3 : (x.ms.length : Int) ≤ 9223372036854775807 := by omega
      go_wp2
      go_loopw [3, 5] (fun s3 s5 wr => ∃ (i q : Nat), s3 = .int .i64 q ∧ s5 = .int .i64 i ∧ i ≤ x.ms.length ∧ q ≤ d ∧ Hid (mxL (depM d) r x.ms = mxL (depM d) q (x.ms.drop i)) ∧ Hid (Below w.heap.size w wr)) (fun s3 s5 wr => x.ms.length - numAt wr s5)
      case atStart => exact ⟨0, r, rfl, rfl, by omega, hr, hid rfl, hb⟩
      case round =>
        clear hb
        obtain ⟨i, q, rfl, rfl, hi, hq, HQ, hb⟩ := hrel
        have c2 := cell_below C2.out hb.out
        have hb2 : b1 < wr.heap.size := World.block_lt_of_cell? _ _ c2
        by_cases hil : i < x.ms.length
        · have k3 : (i : Int) < (x.ms.length : Int) := by omega
          obtain ⟨p1, r1, fa1, fc1, ua1, uc1, rfl, -, hp1, m10, m11, hm1⟩ := mgs_at' (Q.out.kept hb.out) hil
          have HM := hid hm1
          have HSI : Hid (mxL (depM d) q (x.ms.drop i) = mxL (depM d) (max q (depM d x.ms[i])) (x.ms.drop (i + 1))) := hid (by rw [List.drop_eq_getElem_cons hil]; rfl)
          have HLE := hid (depM_le d x.ms[i])
          clear hm1
          generalize x.ms[i] = m at *
          go_wp2_with fail
          refine (HD.out _ Z [.slice fa1 m.fs.length fc1, .slice ua1 m.us.length uc1] m HM.out).mono ?_
          rintro e w1 ⟨rfl, hbx⟩
          have hbw : Hid (Below w.heap.size w w1) := hid (bl_then hb.out hbx)
          clear hbx
          generalize depM d m = dm at *
          go_wp2
          exact ⟨⟨i + 1, max q dm, by congr 1; omega, by simp, by omega, by have := HLE.out; omega, hid (by rw [HQ.out, HSI.out]), hbw⟩, by simp [numAt]; omega⟩
        · have k3 : ¬ (i : Int) < (x.ms.length : Int) := by omega
          have HE : Hid (mxL (depM d) r x.ms = q) := hid (by rw [HQ.out, List.drop_of_length_le (by omega)]; rfl)
          go_wp2
          exact ⟨⟨j + 1, q, rfl, by simp, by omega, hq, hid (by rw [HA.out, HST.out, HE.out]), hb⟩, by simp [numAt]; omega⟩
    · have k2 : ¬ (j : Int) < (xs.length : Int) := by omega
      have HE : Hid (depVs (depM d) 0 xs = r) := hid (by rw [HA.out, List.drop_of_length_le (by omega)]; rfl)
      go_wp2
      go_ret
      exact ⟨by rw [HE.out]; rfl, hb.out⟩
theorem depthDR : ∀ d, d ≤ 4000000 → DpAt d
  | 0, _ => fun _ _ _ _ h => h.elim
  | d + 1, hd => fun w Z cs m h => by
    have HD := depthDR d (by omega)
    obtain ⟨ka, kc, va, vc, rfl, g, q, l1, -⟩ := msg_open h
    have HV : Hid (∀ (W : World) (xs : List (CV CM)) (a : Option Addr) (c : Nat), VlsR W Z d (.slice a xs.length c) xs → Calls Tryz.prog 63 #[.slice a xs.length c] W fun e w' => e = .returned (.int .i64 (depVs (depM d) 0 xs)) ∧ Below W.heap.size W w') := hid fun W xs a c hx => depthsDR8 d (by omega) HD W Z xs a c hx
    have G := hid g
    have m1 : (m.fs.length : Int) ≤ 9223372036854775807 := by omega
    have HX : Hid (depM (d + 1) m = m.fs.foldl (fun a f => max (max a (depVs (depM d) 0 f.ks)) (depVs (depM d) 0 f.vs)) 0 + 1) := hid rfl
    have HDL := hid (fun (l : List (CV CM)) => depVs_le (l := l) (depM_le d) (Nat.zero_le d))
    generalize depM (d + 1) m = res at *
    clear h g q HD
    go_enter Tryz.func29, Tryz.ntmps29
    go_wp2
    go_loopw [3, 4] (fun s3 s4 wr => ∃ (j r : Nat), s3 = .int .i64 r ∧ s4 = .int .i64 j ∧ j ≤ m.fs.length ∧ r ≤ d ∧ Hid (res = (m.fs.drop j).foldl (fun a f => max (max a (depVs (depM d) 0 f.ks)) (depVs (depM d) 0 f.vs)) r + 1) ∧ Hid (Blk wr w.heap.size 35 #[.slice ka m.fs.length kc, .slice va m.us.length vc]) ∧ Hid (Below w.heap.size w wr)) (fun s3 s4 wr => m.fs.length - numAt wr s4)
    case atStart => exact ⟨0, 0, rfl, rfl, by omega, by omega, HX, hid (Blk.new _ _ _), hid (by exact blBy)⟩
    case round =>
      obtain ⟨j, r, rfl, rfl, hj, hr, HA, HBx, hb⟩ := hrel
      have xx := HBx.out.cellF
      have zx := HBx.out.lt
      by_cases hlt : j < m.fs.length
      · have k2 : (j : Int) < (m.fs.length : Int) := by omega
        obtain ⟨b1, o1, pa, pc, qa, qc, rfl, -, hb1, c0, c1, c2, he⟩ := fls_at (G.out.kept hb.out) hlt
        obtain ⟨_, _, _, _, e1, g1, g2, -⟩ := fld_open he
        simp only [List.cons.injEq, Value.slice.injEq, true_and, and_true] at e1
        obtain ⟨⟨rfl, rfl⟩, rfl, rfl⟩ := e1
        have G1 := hid g1
        have G2 := hid g2
        have HST : Hid ((m.fs.drop j).foldl (fun a f => max (max a (depVs (depM d) 0 f.ks)) (depVs (depM d) 0 f.vs)) r = (m.fs.drop (j + 1)).foldl (fun a f => max (max a (depVs (depM d) 0 f.ks)) (depVs (depM d) 0 f.vs)) (max (max r (depVs (depM d) 0 m.fs[j].ks)) (depVs (depM d) 0 m.fs[j].vs))) := hid (by rw [List.drop_eq_getElem_cons hlt, List.foldl_cons])
        have f0 : wr.cell? ⟨w.heap.size, 0, none⟩ = some (.slice (some ⟨b1, o1, none⟩) m.fs.length kc) := xx 0
        clear he g1 g2 c0
        generalize m.fs[j] = f at *
        have HL1 := hid (HDL.out f.ks)
        have HL2 := hid (HDL.out f.vs)
        have HV1 := hid (fun W (hW : Below wr.heap.size wr W) => HV.out W f.ks pa pc (G1.out.kept hW))
        have HV2 := hid (fun W (hW : Below wr.heap.size wr W) => HV.out W f.vs qa qc (G2.out.kept hW))
        generalize depVs (depM d) 0 f.ks = n1 at *
        generalize depVs (depM d) 0 f.vs = n2 at *
        have HB : Hid (Below wr.heap.size wr wr) := hid (Below.refl _ _)
        have HB0 := hb
        clear xx zx HV G1 G2
        go_wp2_with fail
        go_region_held3 (fun W => W.cell? ⟨w.heap.size, 0, none⟩ = some (.slice (some ⟨b1, o1, none⟩) m.fs.length kc) ∧ W.cell? ⟨b1, o1 + j * 3 + 1, none⟩ = some (.slice pa f.ks.length pc) ∧ W.cell? ⟨b1, o1 + j * 3 + 2, none⟩ = some (.slice qa f.vs.length qc)) (exact ⟨f0, c1, c2⟩) (first | (go_at_call_of 63 (Value.slice pa f.ks.length pc); refine (HV1.out _ (by have := HB.out; exact blBy)).mono ?_; rintro e w1 ⟨rfl, hbx⟩; replace f0 := cell_below f0 (below_trans (by first | exact Below.refl _ _ | exact below_drew1 _ | exact below_drewN _ _) hbx); replace c1 := cell_below c1 (below_trans (by first | exact Below.refl _ _ | exact below_drew1 _ | exact below_drewN _ _) hbx); replace c2 := cell_below c2 (below_trans (by first | exact Below.refl _ _ | exact below_drew1 _ | exact below_drewN _ _) hbx); replace HB := hid (below_trans HB.out (below_trans (by first | exact Below.refl _ _ | exact below_drew1 _ | exact below_drewN _ _) hbx)); clear hbx) | (go_at_call_of 63 (Value.slice qa f.vs.length qc); refine (HV2.out _ (by have := HB.out; exact blBy)).mono ?_; rintro e w2 ⟨rfl, hbx⟩; replace f0 := cell_below f0 (below_trans (by first | exact Below.refl _ _ | exact below_drew1 _ | exact below_drewN _ _) hbx); replace c1 := cell_below c1 (below_trans (by first | exact Below.refl _ _ | exact below_drew1 _ | exact below_drewN _ _) hbx); replace c2 := cell_below c2 (below_trans (by first | exact Below.refl _ _ | exact below_drew1 _ | exact below_drewN _ _) hbx); replace HB := hid (below_trans HB.out (below_trans (by first | exact Below.refl _ _ | exact below_drew1 _ | exact below_drewN _ _) hbx)); clear hbx))
        all_goals go_wp2
        all_goals exact ⟨⟨j + 1, max (max r n1) n2, by congr 1; omega, by simp, by omega, by have := HL1.out; have := HL2.out; omega, hid (by rw [HA.out, HST.out]), hid (HBx.out.kept (by have := HB.out; exact blBy)), hid (below_trans hb.out (by have := HB.out; exact blBy))⟩, by simp [numAt]; omega⟩
      · have k2 : ¬ (j : Int) < (m.fs.length : Int) := by omega
        have HE : Hid (res = r + 1) := hid (by rw [HA.out, List.drop_of_length_le (by omega)]; rfl)
        go_wp2
        go_ret
        exact ⟨by rw [HE.out]; rfl, hb.out⟩
end Go.Proofs.YtgephggcgopfgaaGreatDoor
namespace Go.Proofs.YtgephggcgopfgaaGreatDoor
open Go.RowKit
set_option maxRecDepth 1000000
set_option linter.unusedVariables false
set_option linter.unusedSimpArgs false
set_option maxHeartbeats 2000000
/-- A field in old memory, and whether it is there. -/
def GetD (d : Nat) (w : World) (o : Option (CF CM)) (e : Ending) (w' : World) : Prop := ∃ cs : List Value, e = .returned (.tuple #[.agg cs.toArray, .bool o.isSome]) ∧ FmF d w' AnyZ cs (o.getD cfZ) ∧ Below w.heap.size w w'
theorem getDR (d : Nat) (w : World) (Z : Nat → Prop) (cs : List Value) (m : CM) (h : MsgE w Z (d + 1) cs m) (n : Int) : Calls Tryz.prog 25 #[.agg cs.toArray, .int .i64 n] w (GetD d w (m.fs.find? (isN n))) := by
  obtain ⟨ka, kc, va, vc, rfl, g, q, l1, -⟩ := msg_open h
  have G := hid g
  have m1 : (m.fs.length : Int) ≤ 9223372036854775807 := by omega
  clear h g q
  generalize hfv : m.fs.find? (isN n) = fv
  have HFV := hid hfv
  clear hfv
  go_enter Tryz.func25, Tryz.ntmps25
  go_wp2
  go_loopw [6] (fun s6 wr => ∃ j : Nat, s6 = .int .i64 j ∧ j ≤ m.fs.length ∧ Hid ((m.fs.drop j).find? (isN n) = fv) ∧ Hid (Blk wr w.heap.size 35 #[.slice ka m.fs.length kc, .slice va m.us.length vc]) ∧ Hid (Blk wr (w.heap.size + 1) 29 #[.int .i64 0, .slice none 0 0, .slice none 0 0]) ∧ Hid (Below w.heap.size w wr)) (fun s6 wr => m.fs.length - numAt wr s6)
  case atStart => exact ⟨0, rfl, by omega, HFV, hid ((Blk.new _ _ _).kept (below_alloc _)), hid (Blk.newAt (by simp)), hid (by exact blBy)⟩
  case round =>
    clear HFV
    obtain ⟨j, rfl, hj, HFV, HBx, HBr, hb⟩ := hrel
    have xx := HBx.out.cellF
    have zx := HBx.out.lt
    have xr := HBr.out.cellF
    have yr := HBr.out.frz
    have zr := HBr.out.lt
    by_cases hlt : j < m.fs.length
    · have k2 : (j : Int) < (m.fs.length : Int) := by omega
      obtain ⟨b1, o1, pa, pc, qa, qc, rfl, -, hb1, c0, c1, c2, he⟩ := fls_at G.out hlt
      have hne : b1 ≠ w.heap.size + 1 := by omega
      replace c0 := cell_below c0 hb.out
      replace c1 := cell_below c1 hb.out
      replace c2 := cell_below c2 hb.out
      replace hb1 : b1 < wr.heap.size := World.block_lt_of_cell? _ _ c0
      have HE := hid he
      have HST : Hid ((m.fs.drop j).find? (isN n) = match isN n m.fs[j] with | true => some m.fs[j] | false => (m.fs.drop (j + 1)).find? (isN n)) := hid (by rw [List.drop_eq_getElem_cons hlt, List.find?_cons]; first | rfl | (split <;> rfl) | (split <;> simp_all))
      rw [HST.out] at HFV
      clear he HST
      generalize m.fs[j] = x at *
      by_cases hq : x.num = n
      · have kq : (x.num == n) = true := by simpa using hq
        rw [show isN n x = true from decide_eq_true hq] at HFV
        have HX : Hid (fv = some x) := hid HFV.out.symm
        replace hq := hid hq
        go_wp2
        have HN : Hid (FmF d w (· < w.heap.size) [.int .i64 x.num, .slice pa x.ks.length pc, .slice qa x.vs.length qc] x) := hid ((famF d).go ((famF d).old HE.out) (Keep.refl (fun _ => True) w) (fun _ _ => trivial) (fun k hk => hk.2))
        have HK : Hid (Keep (· < w.heap.size) w wr) := hid (Keep.ofBelow hb.out)
        exact bodyPost_ret (v := .tuple #[.agg #[.int .i64 x.num, .slice pa x.ks.length pc, .slice qa x.vs.length qc], .bool true]) (by simp [results, Tryz.results25, go_sem, xr, zr, yr]) rfl ⟨[.int .i64 x.num, .slice pa x.ks.length pc, .slice qa x.vs.length qc], by rw [HX.out]; rfl, by rw [HX.out]; exact (famF d).go HN.out (f := (· < w.heap.size)) (HK.out.trans (by with_reducible repeat (first | exact Keep.refl _ _ | refine kpS ?_ (by first | (simp; done) | (simp; omega) | omega) | refine kpA ?_ _ | refine kpD ?_ | refine kpN ?_ _))) (fun _ h => h) (fun _ _ => trivial), by have := hb.out; exact blBy⟩
      · have kq : (x.num == n) = false := by simpa using hq
        rw [show isN n x = false from decide_eq_false hq] at HFV
        replace hq := hid hq
        go_wp2
        exact ⟨⟨j + 1, by simp, by omega, HFV, HBx, HBr, hb⟩, by simp [numAt]; omega⟩
    · have k2 : ¬ (j : Int) < (m.fs.length : Int) := by omega
      have HX : Hid (fv = none) := hid (by rw [← HFV.out, List.drop_of_length_le (by omega)]; rfl)
      go_wp2
      exact bodyPost_ret (v := .tuple #[.agg #[.int .i64 0, .slice none 0 0, .slice none 0 0], .bool false]) (by simp [results, Tryz.results25, go_sem, xr, zr, yr]) rfl ⟨[.int .i64 0, .slice none 0 0, .slice none 0 0], by rw [HX.out]; rfl, by rw [HX.out]; exact ⟨_, _, rfl, RowM.nil _ _ _ _, RowM.nil _ _ _ _, by constructor <;> decide⟩, by have := hb.out; exact blBy⟩
end Go.Proofs.YtgephggcgopfgaaGreatDoor
namespace Go.Proofs.YtgephggcgopfgaaGreatDoor
open Go.RowKit Go.Shelf
set_option maxRecDepth 1000000
attribute [local go_sem] Oper.semAt_some
set_option linter.unusedVariables false
set_option linter.unusedSimpArgs false
set_option maxHeartbeats 2000000
theorem kpBl {f : Nat → Prop} {w W W' : World} (h : Keep f w W) (g : Below W.heap.size W W') : Keep f w W' := h.trans (Keep.ofBelow g)
theorem keepK_t {f : Nat → Prop} {A B C : World} (h : Keep f A B) (k : Keep f B C) : Keep f A C := h.trans k
theorem keepK_b {w : World} {p : Nat} (hp : p < w.heap.size) (W : World) (l : Nat) (o o' : Obj) (hl : w.heap.size ≤ l) (h : W.heap[l]? = some o) (h1 : o.isCells = false) (h2 : o.isWalk = false) : Keep (fun k => k < w.heap.size ∧ k ≠ p) W (W.putObj l o') := ⟨rfl, rfl, rfl, by simp [World.putObj], fun k _ hf => by simp [World.putObj, Array.getElem?_setIfInBounds]; omega⟩
theorem msgsOf_inK (f : Nat → Prop) (w : World) (Z : Nat → Prop) (d : Nat) (n : Nat) (hn : 1 ≤ n) (p : Nat) (x : CF CM) (ka va : Option Addr) (kc vc : Nat) (hp : Blk w p 29 #[.int .i64 x.num, .slice ka x.ks.length kc, .slice va x.vs.length vc]) (hZf : ∀ k, Z k → f k) (h1 : VlsR w Z d (.slice ka x.ks.length kc) x.ks) (h2 : VlsR w Z d (.slice va x.vs.length vc) x.vs) :
    SeqStopsK Fence.wide n Tryz.prog 122 #[.pointer (some ⟨p, 0, none⟩)] (encM (w := w) (Z := Z) (d := d) (L := allM x)) (Keep f) (fun xs => xs.map (fun y => y.1.2) = allM x) (fun xs => xs.map (fun y => y.1.2) <+: allM x) (allM x).length w := by
  intro l J Jx W hW hJ hJx hY h0
  have H1 := hid h1
  have H2 := hid h2
  have HJ := hid hJ
  have HY := hid hY
  have HW := hid hW
  have Bp := hp.kept hW
  have xp := Bp.cellF
  have zp := Bp.lt
  clear h1 h2 hp hJ hJx hY hW Bp
  refine callsIn_of_wp Tryz.func122 rfl trivial ?_ rfl
  simp only [Tryz.ntmps122, List.size_toArray, List.length_cons, List.length_nil, Nat.reduceAdd, Nat.reduceSub, Array.replicate_succ, Array.replicate_zero, List.push_toArray, List.append_toArray, List.nil_append, List.cons_append]
  gi_wp2
  gi_loopw [14] (fun s wr => ∃ (i : Nat) (pre : List (XM w Z d (allM x))), s = .int .i64 i ∧ i ≤ 2 ∧ Hid (pre.map (fun y => y.1.2) = (([x.ks, x.vs] : List (List (CV CM))).take i).flatMap (fun l => l.flatMap CV.ms)) ∧ Hid (J pre wr) ∧ Hid (Keep f w wr)) (fun s _ => 2 - (intOf s).toNat)
  case atStart => exact ⟨0, [], rfl, by omega, hid rfl, hid h0, hid (Keep.ofBelow HW.out)⟩
  case round =>
    obtain ⟨i, pre, rfl, hi, HP, HJ0, hb⟩ := hrel
    by_cases hlt : i < 2
    · have k0 : (i : Int) < 2 := by omega
      obtain ⟨xs, la, lc, P0, R0, hidx, HV, HP0, HAL, HNX⟩ : ∃ (xs : List (CV CM)) (la : Option Addr) (lc : Nat) (P0 R0 : List CM), (∀ W, (Instr.index 149 (.agg #[.slice ka x.ks.length kc, .slice va x.vs.length vc]) (.int .i64 (i : Int))).run Tryz.prog W = .ok (.slice la xs.length lc) W) ∧ Hid (VlsR w Z d (.slice la xs.length lc) xs) ∧ Hid (pre.map (fun y => y.1.2) = P0) ∧ Hid (allM x = P0 ++ (xs.flatMap CV.ms ++ R0)) ∧ Hid ((([x.ks, x.vs] : List (List (CV CM))).take (i + 1)).flatMap (fun l => l.flatMap CV.ms) = P0 ++ xs.flatMap CV.ms) := by
        have ei : i = 0 ∨ i = 1 := by omega
        rcases ei with rfl | rfl
        · exact ⟨x.ks, ka, kc, [], x.vs.flatMap CV.ms, fun W => by rfl, H1, hid (by rw [HP.out]; rfl), hid rfl, hid (by simp)⟩
        · exact ⟨x.vs, va, vc, x.ks.flatMap CV.ms, [], fun W => by rfl, H2, hid (by rw [HP.out]; simp), hid (by unfold allM; simp), hid (by simp)⟩
      obtain ⟨_, _, e1, l1⟩ := RowM.sl HV.out
      clear e1
      have m1 : (xs.length : Int) ≤ 9223372036854775807 := by omega
      clear HP
      gi_wp2
      gi_loopw [19] (fun s wr => ∃ (j : Nat) (pre : List (XM w Z d (allM x))), s = .int .i64 j ∧ j ≤ xs.length ∧ Hid (pre.map (fun y => y.1.2) = P0 ++ (xs.take j).flatMap CV.ms) ∧ Hid (J pre wr) ∧ Hid (Keep f w wr)) (fun s _ => xs.length - (intOf s).toNat)
      case atStart => exact ⟨0, pre, rfl, by omega, hid (by rw [HP0.out]; simp), HJ0, hb⟩
      case round =>
        clear HJ0 hb
        obtain ⟨j, pre, rfl, hj, HP, HJ0, hb⟩ := hrel
        by_cases hjl : j < xs.length
        · have k1 : (j : Int) < (xs.length : Int) := by omega
          obtain ⟨b1, o1, ba1, bc1, ma1, mc1, rfl, hz1, hb1, c0, c1, c2, he⟩ := vls_at HV.out hjl
          obtain ⟨_, _, _, _, e1, -, q1, -, ml1, -⟩ := val_open he
          simp only [List.cons.injEq, Value.slice.injEq, true_and, and_true] at e1
          obtain ⟨⟨rfl, rfl⟩, rfl, rfl⟩ := e1
          have Q := hid q1
          have HSP := hid (fun k (hk : k < xs[j].ms.length) => flat_split hjl hk)
          have HNJ := hid (flat_next hjl)
          replace c0 := cell_kp c0 hb.out (hZf _ hz1)
          replace c1 := cell_kp c1 hb.out (hZf _ hz1)
          replace c2 := cell_kp c2 hb.out (hZf _ hz1)
          replace hb1 : b1 < wr.heap.size := World.block_lt_of_cell? _ _ c0
          clear he q1
          generalize xs[j] = v at *
          have ml3 : (v.ms.length : Int) ≤ 9223372036854775807 := by omega
          gi_wp2
          gi_loopw [26] (fun s wr => ∃ (k : Nat) (pre : List (XM w Z d (allM x))), s = .int .i64 k ∧ k ≤ v.ms.length ∧ Hid (pre.map (fun y => y.1.2) = P0 ++ ((xs.take j).flatMap CV.ms ++ v.ms.take k)) ∧ Hid (J pre wr) ∧ Hid (Keep f w wr)) (fun s _ => v.ms.length - (intOf s).toNat)
          case atStart => exact ⟨0, pre, rfl, by omega, hid (by rw [HP.out]; simp), hid (abide_alloc HJ.out HJ0.out _), hid (kpBl hb.out (by exact blBy))⟩
          case round =>
            clear HJ0 hb HP c0 c1 c2 hb1
            obtain ⟨k, pre, rfl, hk, HP, HJ0, hb⟩ := hrel
            by_cases hkl : k < v.ms.length
            · have k2 : (k : Int) < (v.ms.length : Int) := by omega
              obtain ⟨p1, r1, fa1, fc1, ua1, uc1, rfl, hz2, hp1, m10, m11, hm1⟩ := mgs_at' Q.out hkl
              have HSK := hid (HSP.out k hkl)
              have HTK : Hid (v.ms.take (k + 1) = v.ms.take k ++ [v.ms[k]]) := hid (List.take_succ_eq_append_getElem hkl)
              replace m10 := cell_kp m10 hb.out (hZf _ hz2)
              replace m11 := cell_kp m11 hb.out (hZf _ hz2)
              replace hp1 : p1 < wr.heap.size := World.block_lt_of_cell? _ _ m10
              generalize v.ms[k] = m at *
              have HLN : pre.length < (allM x).length := by
                have e1 : pre.length = (P0 ++ ((xs.take j).flatMap CV.ms ++ v.ms.take k)).length := by rw [← HP.out, List.length_map]
                rw [e1, HAL.out, HSK.out]
                simp only [List.length_append, List.length_cons]
                omega
              have HPX : Hid (P0 ++ ((xs.take j).flatMap CV.ms ++ v.ms.take (k + 1)) <+: allM x) := hid (by
                rw [HAL.out, HSK.out, HTK.out]
                exact ⟨v.ms.drop (k + 1) ++ (xs.drop (j + 1)).flatMap CV.ms ++ R0, by simp only [List.append_assoc, List.cons_append, List.nil_append]⟩)
              have HME : Hid (MsgE w Z d [.slice fa1 m.fs.length fc1, .slice ua1 m.us.length uc1] m) := hid hm1
              have HIN : Hid (m ∈ allM x) := hid (by rw [HAL.out, HSK.out]; simp)
              clear hm1
              obtain ⟨fn, tmps, assign, body, hy, hR⟩ := HY.out pre ⟨([.slice fa1 m.fs.length fc1, .slice ua1 m.us.length uc1], m), HME.out, HIN.out⟩ (wr.alloc (.cells #[.slice fa1 m.fs.length fc1, .slice ua1 m.us.length uc1] 35)) (abide_alloc HJ.out HJ0.out _) HLN
              dsimp only [encM] at hy
              have HR := hid hR
              clear hR HLN
              gi_wp2
              refine HR.out.mono ?_
              rintro e W3 (⟨rfl, hJ3, hk3⟩ | ⟨rfl, hJx3⟩)
              · have hb3 : Hid (Keep f w W3) := hid ((kpBl hb.out (by exact blBy)).trans hk3)
                have HJ3 := hid hJ3
                clear hJ3 hk3 hy m10 m11 hp1
                gi_wp2
                exact ⟨⟨k + 1, _, by simp, by omega, hid (by rw [List.map_append, HP.out, HTK.out]; simp), HJ3, hb3⟩, by simp [intOf]; omega⟩
              · have HJ3 := hid hJx3
                clear hJx3 hy m10 m11 hp1
                gi_wp2
                refine bodyPost_ret (results_none rfl _ _ _) rfl ?_
                exact ⟨⟨_, rfl⟩, .inr ⟨_, by rw [List.map_append, HP.out]; have := HPX.out; rw [HTK.out] at this; simpa using this, HJ3.out⟩⟩
            · have k2 : ¬ (k : Int) < (v.ms.length : Int) := by omega
              have e1 : v.ms.take k = v.ms := List.take_of_length_le (by omega)
              rw [e1] at HP
              clear e1
              gi_wp2
              exact ⟨⟨j + 1, pre, by simp, by omega, hid (by rw [HP.out, HNJ.out]), HJ0, hb⟩, by simp [intOf]; omega⟩
        · have k1 : ¬ (j : Int) < (xs.length : Int) := by omega
          have e1 : xs.take j = xs := List.take_of_length_le (by omega)
          rw [e1] at HP
          clear e1
          gi_wp2
          exact ⟨⟨i + 1, pre, by simp, by omega, hid (by rw [HP.out, HNX.out]), HJ0, hb⟩, by simp [intOf]; omega⟩
    · have k0 : ¬ (i : Int) < 2 := by omega
      have ei : i = 2 := by omega
      rw [ei] at HP
      clear ei
      gi_wp2
      go_end0
      exact ⟨⟨_, rfl⟩, .inl ⟨pre, by rw [HP.out]; unfold allM; simp, HJ0.out⟩⟩
end Go.Proofs.YtgephggcgopfgaaGreatDoor
namespace Go.Proofs.YtgephggcgopfgaaGreatDoor
open Go.RowKit
set_option maxRecDepth 1000000
set_option linter.unusedVariables false
set_option linter.unusedSimpArgs false
set_option maxHeartbeats 2000000
end Go.Proofs.YtgephggcgopfgaaGreatDoor
namespace Go.Proofs.YtgephggcgopfgaaGreatDoor
open Go.RowKit
set_option maxRecDepth 1000000
set_option linter.unusedVariables false
set_option linter.unusedSimpArgs false
set_option maxHeartbeats 2000000
end Go.Proofs.YtgephggcgopfgaaGreatDoor
namespace Go.Proofs.YtgephggcgopfgaaGreatDoor
open Go.RowKit
set_option maxRecDepth 1000000
set_option linter.unusedVariables false
set_option linter.unusedSimpArgs false
set_option maxHeartbeats 2000000
end Go.Proofs.YtgephggcgopfgaaGreatDoor
namespace Go.Proofs.YtgephggcgopfgaaGreatDoor
open Go.RowKit
set_option maxRecDepth 1000000
set_option linter.unusedVariables false
set_option linter.unusedSimpArgs false
end Go.Proofs.YtgephggcgopfgaaGreatDoor
namespace Go.Proofs.YtgephggcgopfgaaGreatDoor
open Go.RowKit
set_option maxRecDepth 1000000
set_option linter.unusedVariables false
set_option linter.unusedSimpArgs false
end Go.Proofs.YtgephggcgopfgaaGreatDoor
namespace Go.Proofs.YtgephggcgopfgaaGreatDoor
open Go.RowKit
set_option maxRecDepth 1000000
set_option linter.unusedVariables false
set_option linter.unusedSimpArgs false
end Go.Proofs.YtgephggcgopfgaaGreatDoor
namespace Go.Proofs.YtgephggcgopfgaaGreatDoor
open Go.RowKit
set_option maxRecDepth 1000000
set_option linter.unusedVariables false
set_option linter.unusedSimpArgs false
end Go.Proofs.YtgephggcgopfgaaGreatDoor
namespace Go.Proofs.YtgephggcgopfgaaGreatDoor
open Go.RowKit
set_option maxRecDepth 1000000
set_option linter.unusedVariables false
set_option linter.unusedSimpArgs false
set_option maxHeartbeats 4000000
/-- What stands while Put goes on. -/
structure PutI (d : Nat) (w wr : World) (m : CM) (MA FF : Array Value) (po : Nat) (ua : Option Addr) (uc : Nat) (out : List (CF CM)) (oa : Option Addr) (k oc : Nat) : Prop where
  bm : Blk wr w.heap.size 35 MA
  bf : Blk wr (w.heap.size + 1) 29 FF
  br : Blk wr (w.heap.size + 1 + 1) 35 #[.slice none 0 0, .slice none 0 0]
  bo : Blk wr po 35 #[.slice oa k oc, .slice ua m.us.length uc]
  hu : EnsR wr (fun b => w.heap.size + 3 ≤ b ∧ b < po) (.slice ua m.us.length uc) m.us
  ho : OwnM wr (po + 1) 29 3 (FmF d) (.slice oa k oc) out
  ln : out.length = k
  hb : Below w.heap.size w wr
  hs : po + 1 ≤ wr.heap.size
theorem PutI.kept {d : Nat} {w wr W : World} {m : CM} {MA FF : Array Value} {po : Nat} {ua : Option Addr} {uc : Nat} {out : List (CF CM)} {oa : Option Addr} {k oc : Nat} (h : PutI d w wr m MA FF po ua uc out oa k oc) (hb : Below wr.heap.size wr W) : PutI d w W m MA FF po ua uc out oa k oc :=
  ⟨h.bm.kept hb, h.bf.kept hb, h.br.kept hb, h.bo.kept hb, h.hu.kept hb, h.ho.kept (famF d) hb, h.ln, below_trans h.hb hb, Nat.le_trans h.hs hb.size⟩
/-- One field more. -/
theorem PutI.step {d : Nat} {w wr x3 : World} {m : CM} {MA FF : Array Value} {po : Nat} {ua : Option Addr} {uc : Nat} {out : List (CF CM)} {oa : Option Addr} {k oc : Nat} (h : PutI d w wr m MA FF po ua uc out oa k oc) (hpo : w.heap.size + 3 ≤ po) {y : CF CM} {la : Option Addr} {lc : Nat} (ho : OwnM x3 (po + 1) 29 3 (FmF d) (.slice la (k + 1) lc) (out ++ [y])) (g : Grow wr x3 (.slice oa k oc) (.slice la (k + 1) lc)) : PutI d w (x3.setCell ⟨po, 0, none⟩ (.slice la (k + 1) lc)) m MA FF po ua uc (out ++ [y]) la (k + 1) lc := by
  have K : Keep (· < po + 1) wr x3 := Keep.ofGrow g (fun q (hq : q < po + 1) e => by have := (h.ho.own e).1; omega)
  have hs := g.size
  have h0 := h.hs
  have hbo : Blk x3 po 35 #[.slice oa k oc, .slice ua m.us.length uc] := h.bo.keep K (show _ < _ by omega)
  refine ⟨(h.bm.keep K (show _ < _ by omega)).other (by first | (simp; done) | (simp; omega) | omega) _, (h.bf.keep K (show _ < _ by omega)).other (by first | (simp; done) | (simp; omega) | omega) _, (h.br.keep K (show _ < _ by omega)).other (by first | (simp; done) | (simp; omega) | omega) _, (hbo.set 0 _).is (by simp), ?_, ho.keepB (famF d) (Keep.setCell _ _ _ (by simp)), by rw [List.length_append, h.ln]; rfl, ?_, by simp; omega⟩
  · exact EnsR.go h.hu (f := fun b => w.heap.size + 3 ≤ b ∧ b < po) ((K.weak (fun q hq => by show q < po + 1; have := hq.2; omega)).trans (Keep.setCell _ _ _ (by first | (simp; done) | (simp; omega) | omega))) (fun _ h => h) (fun _ h => h)
  · have h3 := K.below (B := w.heap.size) (by have := h.hb.size; omega) (fun k hk => by show k < _; omega)
    exact Below.trans h.hb (h3.setCell (by simp; omega) _)
end Go.Proofs.YtgephggcgopfgaaGreatDoor
namespace Go.Proofs.YtgephggcgopfgaaGreatDoor
open Go.RowKit
set_option maxRecDepth 1000000
set_option linter.unusedVariables false
set_option linter.unusedSimpArgs false
set_option maxHeartbeats 2000000
end Go.Proofs.YtgephggcgopfgaaGreatDoor
namespace Go.Proofs.YtgephggcgopfgaaGreatDoor
open Go.RowKit
set_option maxRecDepth 1000000
set_option linter.unusedVariables false
set_option linter.unusedSimpArgs false
set_option maxHeartbeats 2000000
end Go.Proofs.YtgephggcgopfgaaGreatDoor
namespace Go.Proofs.YtgephggcgopfgaaGreatDoor
open Go.RowKit
set_option maxRecDepth 1000000
set_option linter.unusedVariables false
set_option linter.unusedSimpArgs false
set_option maxHeartbeats 1000000
theorem add_lit (b o j : Nat) : (⟨b, o, none⟩ : Addr).add j = ⟨b, o + j, none⟩ := by unfold Addr.add; split <;> simp_all
end Go.Proofs.YtgephggcgopfgaaGreatDoor
namespace Go.Proofs.YtgephggcgopfgaaGreatDoor
open Go.RowKit
set_option maxRecDepth 1000000
set_option linter.unusedVariables false
set_option linter.unusedSimpArgs false
set_option maxHeartbeats 1000000
end Go.Proofs.YtgephggcgopfgaaGreatDoor
namespace Go.Proofs.YtgephggcgopfgaaGreatDoor
open Go.RowKit
set_option maxRecDepth 1000000
set_option linter.unusedVariables false
set_option linter.unusedSimpArgs false
set_option maxHeartbeats 16000000
/-- What the walk over fields holds: the table, the message, the field, its type. -/
structure St4 (w wr : World) (p8 p9 : Nat) (c0 c1 c8 c9 : Array Value) : Prop where
  t : Blk wr w.heap.size 46 c0
  m : Blk wr (w.heap.size + 1) 35 c1
  x : Blk wr p8 29 c8
  f : Blk wr p9 82 c9
  b : Below w.heap.size w wr
theorem St4.kept {w wr W : World} {p8 p9 : Nat} {c0 c1 c8 c9 : Array Value} (h : St4 w wr p8 p9 c0 c1 c8 c9) (hb : Below wr.heap.size wr W) : St4 w W p8 p9 c0 c1 c8 c9 := ⟨h.t.kept hb, h.m.kept hb, h.x.kept hb, h.f.kept hb, below_trans h.b hb⟩
end Go.Proofs.YtgephggcgopfgaaGreatDoor
namespace Go.Proofs.YtgephggcgopfgaaGreatDoor
open Go.RowKit
set_option maxRecDepth 1000000
set_option linter.unusedVariables false
set_option linter.unusedSimpArgs false
/-- The numbers of a message's values, at its own depth. -/
theorem MsgE.u64 {w : World} {Z : Nat → Prop} {d : Nat} {cs : List Value} {m : CM} (h : MsgE w Z (d + 1) cs m) : ∀ f ∈ m.fs, ∀ v ∈ f.vs, U64 v.n := by
  obtain ⟨fa, fc, ua, uc, rfl, g, -⟩ := msg_open h
  intro f hf v hv
  obtain ⟨i, hi, rfl⟩ := List.mem_iff_getElem.1 hf
  obtain ⟨b, o, ka, kc, va, vc, -, -, -, -, -, -, he⟩ := fls_at g hi
  obtain ⟨_, _, _, _, -, -, q, -⟩ := fld_open he
  obtain ⟨j, hj, rfl⟩ := List.mem_iff_getElem.1 hv
  obtain ⟨_, _, _, _, _, _, -, -, -, -, -, -, hv⟩ := vls_at q hj
  obtain ⟨_, _, _, _, -, -, -, -, -, hu⟩ := val_open hv
  exact hu
end Go.Proofs.YtgephggcgopfgaaGreatDoor
namespace Go.Proofs.YtgephggcgopfgaaGreatDoor
open Go.RowKit
set_option maxRecDepth 1000000
set_option linter.unusedVariables false
set_option linter.unusedSimpArgs false
set_option maxHeartbeats 2000000
end Go.Proofs.YtgephggcgopfgaaGreatDoor
namespace Go.Proofs.YtgephggcgopfgaaGreatDoor
open Go.RowKit
set_option maxRecDepth 1000000
set_option linter.unusedVariables false
set_option linter.unusedSimpArgs false
set_option maxHeartbeats 1000000
end Go.Proofs.YtgephggcgopfgaaGreatDoor
namespace Go.Proofs.YtgephggcgopfgaaGreatDoor
set_option linter.unusedVariables false
set_option linter.unusedSimpArgs false
/-- The greatest depth so far, behind a message at the depth k. -/
def dpW : Nat → Nat → Nat → CM → Nat
  | 0, _, g, _ => g
  | d + 1, k, g, m => m.fs.foldl (fun a f => (allM f).foldl (fun a z => dpW d (k + 1) a z) a) (max g k)
theorem mxL_cons {α : Type} (f : α → Nat) (a : Nat) (x : α) (l : List α) : mxL f a (x :: l) = mxL f (max a (f x)) l := rfl
theorem mxL_app {α : Type} (f : α → Nat) (a : Nat) (l r : List α) : mxL f a (l ++ r) = mxL f (mxL f a l) r := by
  unfold mxL
  exact List.foldl_append
theorem mxL_base {α : Type} (f : α → Nat) : ∀ (l : List α) (a : Nat), mxL f a l = max a (mxL f 0 l)
  | [], a => by simp [mxL]
  | x :: l, a => by
    rw [mxL_cons, mxL_cons, mxL_base f l (max a (f x)), mxL_base f l (max 0 (f x))]
    omega
theorem depVs_mx (dm : CM → Nat) : ∀ (l : List (CV CM)) (a : Nat), depVs dm a l = mxL dm a (l.flatMap CV.ms)
  | [], a => rfl
  | v :: r, a => by
    rw [List.flatMap_cons, mxL_app]
    exact depVs_mx dm r (mxL dm a v.ms)
theorem depF_mx (dm : CM → Nat) (a : Nat) (f : CF CM) : max (max a (depVs dm 0 f.ks)) (depVs dm 0 f.vs) = mxL dm a (allM f) := by
  unfold allM
  rw [mxL_app, depVs_mx, depVs_mx, mxL_base dm _ (mxL dm a _), mxL_base dm _ a]
theorem depFs_mx (dm : CM → Nat) : ∀ (l : List (CF CM)) (a : Nat), l.foldl (fun a f => max (max a (depVs dm 0 f.ks)) (depVs dm 0 f.vs)) a = mxL dm a (l.flatMap allM)
  | [], a => rfl
  | f :: r, a => by
    rw [List.foldl_cons, List.flatMap_cons, mxL_app, depF_mx]
    exact depFs_mx dm r _
theorem depM_succ (d : Nat) (m : CM) : depM (d + 1) m = mxL (depM d) 0 (m.fs.flatMap allM) + 1 := by
  rw [← depFs_mx]
  rfl
theorem mxL_ge {α : Type} (f : α → Nat) (l : List α) (a : Nat) : a ≤ mxL f a l := by rw [mxL_base]; exact Nat.le_max_left _ _
theorem fold_mx {F : Nat → CM → Nat} {G : CM → Nat} {c : Nat} (h : ∀ a z, c ≤ a → F a z = max a (G z)) : ∀ (l : List CM) (a : Nat), c ≤ a → l.foldl F a = mxL G a l
  | [], a, _ => rfl
  | z :: l, a, ha => by
    rw [List.foldl_cons, mxL_cons, h a z ha]
    exact fold_mx h l _ (Nat.le_trans ha (Nat.le_max_left _ _))
theorem foldF_mx {F : Nat → CM → Nat} {G : CM → Nat} {c : Nat} (h : ∀ a z, c ≤ a → F a z = max a (G z)) : ∀ (l : List (CF CM)) (a : Nat), c ≤ a → l.foldl (fun a f => (allM f).foldl F a) a = mxL G a (l.flatMap allM)
  | [], a, _ => rfl
  | f :: l, a, ha => by
    rw [List.foldl_cons, List.flatMap_cons, mxL_app, fold_mx h _ _ ha]
    exact foldF_mx h l _ (Nat.le_trans ha (mxL_ge _ _ _))
theorem mxL_add (G : CM → Nat) (k : Nat) : ∀ (l : List CM) (a : Nat), k ≤ a → mxL (fun z => k + G z) a l = max a (k + mxL G 0 l)
  | [], a, ha => by
    show a = max a (k + 0)
    omega
  | z :: l, a, ha => by
    rw [mxL_cons, mxL_cons, mxL_add G k l _ (by omega), mxL_base G l (max 0 (G z))]
    omega
theorem dpW_eq : ∀ (d k g : Nat) (m : CM), k ≤ g → dpW d (k + 1) g m = max g (k + depM d m)
  | 0, k, g, m, h => by
    show g = max g (k + 0)
    omega
  | d + 1, k, g, m, h => by
    rw [depM_succ]
    show m.fs.foldl (fun a f => (allM f).foldl (fun a z => dpW d (k + 1 + 1) a z) a) (max g (k + 1)) = _
    rw [foldF_mx (c := k + 1) (G := fun z => (k + 1) + depM d z) (fun a z ha => dpW_eq d (k + 1) a z ha) _ _ (by omega), mxL_add _ _ _ _ (by omega)]
    omega
theorem dpW_le (d k g B : Nat) (m : CM) (h1 : k ≤ g) (h2 : g ≤ B) (h3 : k + d ≤ B) : dpW d (k + 1) g m ≤ B := by
  rw [dpW_eq d k g m h1]
  have := depM_le d m
  omega
theorem dpW_ge (d k g : Nat) (m : CM) (h1 : k ≤ g) : g ≤ dpW d (k + 1) g m := by
  rw [dpW_eq d k g m h1]
  exact Nat.le_max_left _ _
theorem dpL_le (d k B : Nat) : ∀ (l : List CM) (g : Nat), k ≤ g → g ≤ B → k + d ≤ B → l.foldl (fun a z => dpW d (k + 1) a z) g ≤ B ∧ g ≤ l.foldl (fun a z => dpW d (k + 1) a z) g
  | [], g, _, h2, _ => ⟨h2, Nat.le_refl _⟩
  | z :: l, g, h1, h2, h3 => by
    rw [List.foldl_cons]
    obtain ⟨a, b⟩ := dpL_le d k B l _ (Nat.le_trans h1 (dpW_ge d k g z h1)) (dpW_le d k g B z h1 h2 h3) h3
    exact ⟨a, Nat.le_trans (dpW_ge d k g z h1) b⟩
theorem depth_of (d : Nat) (m : CM) : dpW d 1 0 m = depM d m := by
  rw [dpW_eq d 0 0 m (Nat.le_refl _)]
  omega
end Go.Proofs.YtgephggcgopfgaaGreatDoor
