/-
  Settle: what the program answers.
  Settle.
  The messages of a field, one by one, where what is done with them writes.
  How deep a message is, as the walk reckons it.
  How deep a message is: the program's walk.
  The messages of the examples, laid.
-/
import Derived.Test.YtnfdlnelfnigdaaGreatDoorCBN
import Derived.Test.YtnfdlnelfnigdaaGreatDoorCAQ
import Derived.Test.YtnfdlnelfnigdaaGreatDoorCAK
import Derived.Test.YtnfdlnelfnigdaaGreatDoorCTY0
import Derived.Deep.RegionHeld3
namespace Go.Proofs.YtnfdlnelfnigdaaGreatDoor
open Go.RowKit
set_option maxRecDepth 1000000
set_option linter.unusedVariables false
set_option linter.unusedSimpArgs false
set_option maxHeartbeats 2000000
theorem typedAtOk (w : World) (l : List TV) (ta : Option Addr) (tc : Nat) (h : TbR w (.slice ta l.length tc) l) (hk : ∀ x ∈ l, OkV x) (mx : Int) (hm0 : w.cell? ⟨0, 0, none⟩ = some (.int .i64 mx)) (k : Nat) (hkl : k < l.length) (hg : goodB l = true) (he : l[k].t.enum = false) (Z : Nat → Prop) (d : Nat) (cs : List Value) (m : CM) (hm : MsgE w Z d cs m) (hq : keptB l d l[k] m = true) : Calls Tryz.prog 28 #[.agg #[.slice ta l.length tc], .int .i64 (k : Int), .agg cs.toArray] w fun e w' => e = .returned (.tuple #[.agg #[.string (strOfNums l[k].t.name), .bool false, l[k].f, l[k].o, l[k].s, l[k].r], .agg #[.slice ta l.length tc], .int .i64 0]) ∧ Below w.heap.size w w' := by
  have HA := hid fun W (hW : Below w.heap.size w W) => msgAtOk W l ta tc (h.kept hW) hk mx (cell_below hm0 hW) k hkl hg he
  have HK := hid fun W (hW : Below w.heap.size w W) => areKeptT W l ta tc (h.kept hW) hg l[k] (List.getElem_mem hkl) Z d cs m (hm.kept hW)
  obtain ⟨ta1, tc1, ta2, tc2, ta3, tc3, ta4, tc4, e1, e2, e3, e4⟩ := shT_of (h.ty l[k] (List.getElem_mem hkl))
  have ec : cTV l[k] = [.string (strOfNums l[k].t.name), .bool false, .slice ta1 l[k].t.fs.length tc1, .slice ta2 l[k].t.os.length tc2, .slice ta3 l[k].t.ss.length tc3, .slice ta4 l[k].t.rs.length tc4] := by unfold cTV; rw [e1, e2, e3, e4, he]
  obtain ⟨fa, fc, ua, uc, rfl, -⟩ := msg_openD hm
  rw [ec] at HK
  rw [e1, e2, e3, e4] at HA
  rw [hq] at HK
  rw [e1, e2, e3, e4]
  clear h hg hm e1 e2 e3 e4 ec hm0 hk he hq
  generalize l[k] = x at *
  go_enter Tryz.func28, Tryz.ntmps28
  go_wp2_with fail
  refine (HA.out _ (by exact blBy)).mono ?_
  rintro e w1 ⟨rfl, hb1⟩
  have HB1 : Hid (Below w.heap.size w w1) := hid (bl_then (by exact blBy) hb1)
  have Bt : Blk w1 w.heap.size 46 #[.slice ta l.length tc] := ((((Blk.new _ _ _).kept (below_alloc _)).kept (below_alloc _)).kept (below_alloc _)).kept hb1
  have Bm : Blk w1 (w.heap.size + 1) 35 #[.slice fa m.fs.length fc, .slice ua m.us.length uc] := (((Blk.newAt (by simp)).kept (below_alloc _)).kept (below_alloc _)).kept hb1
  have Br5 : Blk w1 (w.heap.size + 1 + 1) 66 #[.string ⟨#[]⟩, .bool false, .slice none 0 0, .slice none 0 0, .slice none 0 0, .slice none 0 0] := ((Blk.newAt (by simp)).kept (below_alloc _)).kept hb1
  have Br6 : Blk w1 (w.heap.size + 1 + 1 + 1) 68 #[.slice none 0 0] := (Blk.newAt (by simp)).kept hb1
  have xt := Bt.cellF
  have zt := Bt.lt
  have xm := Bm.cellF
  have zm := Bm.lt
  have xr5 := Br5.cellF
  have yr5 := Br5.frz
  have zr5 := Br5.lt
  have xr6 := Br6.cellF
  have yr6 := Br6.frz
  have zr6 := Br6.lt
  clear HA
  go_wp2_with fail
  refine (HK.out _ (by have := HB1.out; exact blBy)).mono ?_
  rintro e w2 ⟨rfl, hb2⟩
  have HB2 : Hid (Below w.heap.size w w2) := hid (bl_then (by have := HB1.out; exact blBy) hb2)
  have hz2 : Below w1.heap.size w1 w2 := bl_then (by exact blBy) hb2
  have Bx2 : Blk w2 w1.heap.size 66 #[.string (strOfNums x.t.name), .bool false, .slice ta1 x.t.fs.length tc1, .slice ta2 x.t.os.length tc2, .slice ta3 x.t.ss.length tc3, .slice ta4 x.t.rs.length tc4] := ((Blk.new _ _ _).kept (below_alloc _)).kept hb2
  have Bq2 : Blk w2 (w1.heap.size + 1) 68 #[.slice ta l.length tc] := (Blk.newAt (by simp)).kept hb2
  replace Br5 := Br5.kept hz2
  replace Br6 := Br6.kept hz2
  replace xr5 := Br5.cellF
  replace yr5 := Br5.frz
  replace zr5 := Br5.lt
  replace xr6 := Br6.cellF
  replace yr6 := Br6.frz
  replace zr6 := Br6.lt
  have xx2 := Bx2.cellF
  have zx2 := Bx2.lt
  have xq2 := Bq2.cellF
  have zq2 := Bq2.lt
  have hs1 : w.heap.size + 4 ≤ w1.heap.size := by have := hb1.size; simpa using this
  have n1 : w1.heap.size + 1 ≠ w.heap.size + 1 + 1 := by omega
  have n2 : w1.heap.size ≠ w.heap.size + 1 + 1 := by omega
  have n3 : w1.heap.size + 1 ≠ w.heap.size + 1 + 1 + 1 := by omega
  have n4 : w1.heap.size ≠ w.heap.size + 1 + 1 + 1 := by omega
  have n5 : w.heap.size + 1 + 1 ≠ w.heap.size + 1 + 1 + 1 := by omega
  clear hb2 hz2 HK xt zt xm zm
  go_wp2
  go_region
  all_goals (try go_wp2)
  all_goals exact bodyPost_ret (v := .tuple #[.agg #[.string (strOfNums x.t.name), .bool false, .slice ta1 x.t.fs.length tc1, .slice ta2 x.t.os.length tc2, .slice ta3 x.t.ss.length tc3, .slice ta4 x.t.rs.length tc4], .agg #[.slice ta l.length tc], .int .i64 0]) (by simp [results, Tryz.results28, go_sem, xr5, yr5, zr5, xr6, yr6, zr6]) rfl ⟨rfl, by have := HB2.out; exact blBy⟩
end Go.Proofs.YtnfdlnelfnigdaaGreatDoor
namespace Go.Proofs.YtnfdlnelfnigdaaGreatDoor
open Go.RowKit
set_option maxRecDepth 1000000
set_option linter.unusedVariables false
set_option linter.unusedSimpArgs false
set_option maxHeartbeats 2000000
theorem settleOk (w : World) (l : List TV) (ta : Option Addr) (tc : Nat) (h : TbR w (.slice ta l.length tc) l) (hk : ∀ x ∈ l, OkV x) (mx : Int) (hm0 : w.cell? ⟨0, 0, none⟩ = some (.int .i64 mx)) (k : Nat) (hkl : k < l.length) (hg : goodB l = true) (he : l[k].t.enum = false) (Z : Nat → Prop) (d : Nat) (cs : List Value) (m : CM) (hm : MsgE w Z d cs m) (hq : keptB l d l[k] m = true) : Calls Tryz.prog 13 #[.agg #[.slice ta l.length tc], .int .i64 (k : Int), .agg cs.toArray] w fun e w' => ∃ ds : List Value, e = .returned (.tuple #[.agg ds.toArray, .int .i64 0]) ∧ MsgE w' (w.heap.size ≤ ·) d ds (setM l d l[k] m) ∧ Below w.heap.size w w' := by
  have HA := hid fun W (hW : Below w.heap.size w W) => typedAtOk W l ta tc (h.kept hW) hk mx (cell_below hm0 hW) k hkl hg he Z d cs m (hm.kept hW) hq
  have HR := hid fun W (hW : Below w.heap.size w W) => rebuiltS l ta tc hg d W Z l[k] cs m (h.kept hW) (List.getElem_mem hkl) hq (hm.kept hW)
  obtain ⟨ta1, tc1, ta2, tc2, ta3, tc3, ta4, tc4, e1, e2, e3, e4⟩ := shT_of (h.ty l[k] (List.getElem_mem hkl))
  have ec : cTV l[k] = [.string (strOfNums l[k].t.name), .bool false, .slice ta1 l[k].t.fs.length tc1, .slice ta2 l[k].t.os.length tc2, .slice ta3 l[k].t.ss.length tc3, .slice ta4 l[k].t.rs.length tc4] := by unfold cTV; rw [e1, e2, e3, e4, he]
  obtain ⟨fa, fc, ua, uc, rfl, -⟩ := msg_openD hm
  rw [ec] at HR
  rw [e1, e2, e3, e4] at HA
  clear h hg hm e1 e2 e3 e4 ec hm0 hk he hq
  generalize setM l d l[k] m = sm at *
  generalize l[k] = x at *
  go_enter Tryz.func13, Tryz.ntmps13
  go_wp2_with fail
  refine (HA.out _ (by exact blBy)).mono ?_
  rintro e w1 ⟨rfl, hb1⟩
  have HB1 : Hid (Below w.heap.size w w1) := hid (bl_then (by exact blBy) hb1)
  have Bm : Blk w1 (w.heap.size + 1) 35 #[.slice fa m.fs.length fc, .slice ua m.us.length uc] := ((Blk.newAt (by simp)).kept (below_alloc _)).kept hb1
  have Br : Blk w1 (w.heap.size + 1 + 1) 35 #[.slice none 0 0, .slice none 0 0] := (Blk.newAt (by simp)).kept hb1
  have hs1 : Hid (w.heap.size + 3 ≤ w1.heap.size) := hid (by have := hb1.size; simpa using this)
  have xm := Bm.cellF
  have zm := Bm.lt
  have zt1 : w.heap.size < w1.heap.size := by have := hb1.size; simp at this; omega
  have zm1 : w.heap.size + 1 < w1.heap.size := by have := hb1.size; simp at this; omega
  clear HA hb1
  go_wp2_with fail
  refine (HR.out _ (by have := HB1.out; exact blBy)).mono ?_
  rintro e w2 ⟨ds, rfl, hn, hb2⟩
  have HB2 : Hid (Below w.heap.size w w2) := hid (bl_then (by have := HB1.out; exact blBy) hb2)
  have hz2 : Below w1.heap.size w1 w2 := bl_then (by exact blBy) hb2
  have HN : Hid (MsgE w2 (w.heap.size + 3 ≤ ·) d ds sm) := hid (MsgE.go (Keep.refl (fun _ => True) w2) (fun _ _ => trivial) (fun k hk => by have := hs1.out; simp at hk; omega) d _ _ hn)
  replace Br := Br.kept hz2
  have xr := Br.cellF
  have yr := Br.frz
  have zr := Br.lt
  clear hb2 hz2 hn HR xm zm
  obtain ⟨na, nc, va, vc, rfl, -⟩ := msg_openD HN.out
  go_wp2
  exact bodyPost_ret (v := .tuple #[.agg #[.slice na sm.fs.length nc, .slice va sm.us.length vc], .int .i64 0]) (by simp [results, Tryz.results13, go_sem, xr, yr, zr, zt1, zm1]) rfl ⟨[.slice na sm.fs.length nc, .slice va sm.us.length vc], rfl, MsgE.go (f := (w.heap.size + 3 ≤ ·)) (by with_reducible repeat (first | exact Keep.refl _ _ | refine kpS ?_ (by first | (simp; done) | (simp; omega) | omega) | refine kpA ?_ _ | refine kpD ?_ | refine kpN ?_ _)) (fun _ h => h) (fun k hk => by omega) d _ _ HN.out, by have := HB2.out; exact blBy⟩
end Go.Proofs.YtnfdlnelfnigdaaGreatDoor
namespace Go.Proofs.YtnfdlnelfnigdaaGreatDoor
open Go.RowKit Go.Shelf
set_option maxRecDepth 1000000
attribute [local go_sem] Oper.semAt_some
set_option linter.unusedVariables false
set_option linter.unusedSimpArgs false
set_option maxHeartbeats 2000000
theorem kpBl {f : Nat → Prop} {w W W' : World} (h : Keep f w W) (g : Below W.heap.size W W') : Keep f w W' := h.trans (Keep.ofBelow g)
theorem cell_kp {f : Nat → Prop} {w w' : World} {b o : Nat} {v : Value} (h : w.cell? ⟨b, o, none⟩ = some v) (hb : Keep f w w') (hf : f b) : w'.cell? ⟨b, o, none⟩ = some v := by
  have hlt : b < w.heap.size := World.block_lt_of_cell? _ _ h
  have := hb.block b hlt hf
  unfold World.cell? at *
  rw [this]
  exact h
theorem keepK_t {f : Nat → Prop} {A B C : World} (h : Keep f A B) (k : Keep f B C) : Keep f A C := h.trans k
theorem keepK_b {w : World} {p : Nat} (hp : p < w.heap.size) (W : World) (l : Nat) (o o' : Obj) (hl : w.heap.size ≤ l) (h : W.heap[l]? = some o) (h1 : o.isCells = false) (h2 : o.isWalk = false) : Keep (fun k => k < w.heap.size ∧ k ≠ p) W (W.putObj l o') := ⟨rfl, rfl, rfl, by simp [World.putObj], fun k _ hf => by simp [World.putObj, Array.getElem?_setIfInBounds]; omega⟩
theorem msgsOf_inK (f : Nat → Prop) (w : World) (Z : Nat → Prop) (d : Nat) (n : Nat) (hn : 1 ≤ n) (p : Nat) (x : CF CM) (ka va : Option Addr) (kc vc : Nat) (hp : Blk w p 29 #[.int .i64 x.num, .slice ka x.ks.length kc, .slice va x.vs.length vc]) (hZf : ∀ k, Z k → f k) (h1 : VlsR w Z d (.slice ka x.ks.length kc) x.ks) (h2 : VlsR w Z d (.slice va x.vs.length vc) x.vs) :
    SeqStopsK Fence.wide n Tryz.prog 107 #[.pointer (some ⟨p, 0, none⟩)] (encM (w := w) (Z := Z) (d := d) (L := allM x)) (Keep f) (fun xs => xs.map (fun y => y.1.2) = allM x) (fun xs => xs.map (fun y => y.1.2) <+: allM x) (allM x).length w := by
  intro l J Jx W hW hJ hJx hY h0
  have H1 := hid h1
  have H2 := hid h2
  have HJ := hid hJ
  have HY := hid hY
  have HW := hid hW
  have Bp := hp.kept hW
  have xp := Bp.cellF
  have zp := Bp.lt
  clear h1 h2 hp hJ hJx hY hW Bp
  refine callsIn_of_wp Tryz.func107 rfl trivial ?_ rfl
  simp only [Tryz.ntmps107, List.size_toArray, List.length_cons, List.length_nil, Nat.reduceAdd, Nat.reduceSub, Array.replicate_succ, Array.replicate_zero, List.push_toArray, List.append_toArray, List.nil_append, List.cons_append]
  gi_wp2
  gi_loopw [14] (fun s wr => ∃ (i : Nat) (pre : List (XM w Z d (allM x))), s = .int .i64 i ∧ i ≤ 2 ∧ Hid (pre.map (fun y => y.1.2) = (([x.ks, x.vs] : List (List (CV CM))).take i).flatMap (fun l => l.flatMap CV.ms)) ∧ Hid (J pre wr) ∧ Hid (Keep f w wr)) (fun s _ => 2 - (intOf s).toNat)
  case atStart => exact ⟨0, [], rfl, by omega, hid rfl, hid h0, hid (Keep.ofBelow HW.out)⟩
  case round =>
    obtain ⟨i, pre, rfl, hi, HP, HJ0, hb⟩ := hrel
    by_cases hlt : i < 2
    · have k0 : (i : Int) < 2 := by omega
      obtain ⟨xs, la, lc, P0, R0, hidx, HV, HP0, HAL, HNX⟩ : ∃ (xs : List (CV CM)) (la : Option Addr) (lc : Nat) (P0 R0 : List CM), (∀ W, (Instr.index 142 (.agg #[.slice ka x.ks.length kc, .slice va x.vs.length vc]) (.int .i64 (i : Int))).run Tryz.prog W = .ok (.slice la xs.length lc) W) ∧ Hid (VlsR w Z d (.slice la xs.length lc) xs) ∧ Hid (pre.map (fun y => y.1.2) = P0) ∧ Hid (allM x = P0 ++ (xs.flatMap CV.ms ++ R0)) ∧ Hid ((([x.ks, x.vs] : List (List (CV CM))).take (i + 1)).flatMap (fun l => l.flatMap CV.ms) = P0 ++ xs.flatMap CV.ms) := by
        have ei : i = 0 ∨ i = 1 := by omega
        rcases ei with rfl | rfl
        · exact ⟨x.ks, ka, kc, [], x.vs.flatMap CV.ms, fun W => by rfl, H1, hid (by rw [HP.out]; rfl), hid rfl, hid (by simp)⟩
        · exact ⟨x.vs, va, vc, x.ks.flatMap CV.ms, [], fun W => by rfl, H2, hid (by rw [HP.out]; simp), hid (by unfold allM; simp), hid (by simp)⟩
      obtain ⟨_, _, e1, l1⟩ := RowM.sl HV.out
      clear e1
      have m1 : (xs.length : Int) ≤ 9223372036854775807 := by omega
      clear HP
      gi_wp2
      gi_loopw [19] (fun s wr => ∃ (j : Nat) (pre : List (XM w Z d (allM x))), s = .int .i64 j ∧ j ≤ xs.length ∧ Hid (pre.map (fun y => y.1.2) = P0 ++ (xs.take j).flatMap CV.ms) ∧ Hid (J pre wr) ∧ Hid (Keep f w wr)) (fun s _ => xs.length - (intOf s).toNat)
      case atStart => exact ⟨0, pre, rfl, by omega, hid (by rw [HP0.out]; simp), HJ0, hb⟩
      case round =>
        clear HJ0 hb
        obtain ⟨j, pre, rfl, hj, HP, HJ0, hb⟩ := hrel
        by_cases hjl : j < xs.length
        · have k1 : (j : Int) < (xs.length : Int) := by omega
          obtain ⟨b1, o1, ba1, bc1, ma1, mc1, rfl, hz1, hb1, c0, c1, c2, he⟩ := vls_at HV.out hjl
          obtain ⟨_, _, _, _, e1, -, q1, -, ml1, -⟩ := val_open he
          simp only [List.cons.injEq, Value.slice.injEq, true_and, and_true] at e1
          obtain ⟨⟨rfl, rfl⟩, rfl, rfl⟩ := e1
          have Q := hid q1
          have HSP := hid (fun k (hk : k < xs[j].ms.length) => flat_split hjl hk)
          have HNJ := hid (flat_next hjl)
          replace c0 := cell_kp c0 hb.out (hZf _ hz1)
          replace c1 := cell_kp c1 hb.out (hZf _ hz1)
          replace c2 := cell_kp c2 hb.out (hZf _ hz1)
          replace hb1 : b1 < wr.heap.size := World.block_lt_of_cell? _ _ c0
          clear he q1
          generalize xs[j] = v at *
          have ml3 : (v.ms.length : Int) ≤ 9223372036854775807 := by omega
          gi_wp2
          gi_loopw [26] (fun s wr => ∃ (k : Nat) (pre : List (XM w Z d (allM x))), s = .int .i64 k ∧ k ≤ v.ms.length ∧ Hid (pre.map (fun y => y.1.2) = P0 ++ ((xs.take j).flatMap CV.ms ++ v.ms.take k)) ∧ Hid (J pre wr) ∧ Hid (Keep f w wr)) (fun s _ => v.ms.length - (intOf s).toNat)
          case atStart => exact ⟨0, pre, rfl, by omega, hid (by rw [HP.out]; simp), hid (abide_alloc HJ.out HJ0.out _), hid (kpBl hb.out (by exact blBy))⟩
          case round =>
            clear HJ0 hb HP c0 c1 c2 hb1
            obtain ⟨k, pre, rfl, hk, HP, HJ0, hb⟩ := hrel
            by_cases hkl : k < v.ms.length
            · have k2 : (k : Int) < (v.ms.length : Int) := by omega
              obtain ⟨p1, r1, fa1, fc1, ua1, uc1, rfl, hz2, hp1, m10, m11, hm1⟩ := mgs_at' Q.out hkl
              have HSK := hid (HSP.out k hkl)
              have HTK : Hid (v.ms.take (k + 1) = v.ms.take k ++ [v.ms[k]]) := hid (List.take_succ_eq_append_getElem hkl)
              replace m10 := cell_kp m10 hb.out (hZf _ hz2)
              replace m11 := cell_kp m11 hb.out (hZf _ hz2)
              replace hp1 : p1 < wr.heap.size := World.block_lt_of_cell? _ _ m10
              generalize v.ms[k] = m at *
              have HLN : pre.length < (allM x).length := by
                have e1 : pre.length = (P0 ++ ((xs.take j).flatMap CV.ms ++ v.ms.take k)).length := by rw [← HP.out, List.length_map]
                rw [e1, HAL.out, HSK.out]
                simp only [List.length_append, List.length_cons]
                omega
              have HPX : Hid (P0 ++ ((xs.take j).flatMap CV.ms ++ v.ms.take (k + 1)) <+: allM x) := hid (by
                rw [HAL.out, HSK.out, HTK.out]
                exact ⟨v.ms.drop (k + 1) ++ (xs.drop (j + 1)).flatMap CV.ms ++ R0, by simp only [List.append_assoc, List.cons_append, List.nil_append]⟩)
              have HME : Hid (MsgE w Z d [.slice fa1 m.fs.length fc1, .slice ua1 m.us.length uc1] m) := hid hm1
              have HIN : Hid (m ∈ allM x) := hid (by rw [HAL.out, HSK.out]; simp)
              clear hm1
              obtain ⟨fn, tmps, assign, body, hy, hR⟩ := HY.out pre ⟨([.slice fa1 m.fs.length fc1, .slice ua1 m.us.length uc1], m), HME.out, HIN.out⟩ (wr.alloc (.cells #[.slice fa1 m.fs.length fc1, .slice ua1 m.us.length uc1] 35)) (abide_alloc HJ.out HJ0.out _) HLN
              dsimp only [encM] at hy
              have HR := hid hR
              clear hR HLN
              gi_wp2
              refine HR.out.mono ?_
              rintro e W3 (⟨rfl, hJ3, hk3⟩ | ⟨rfl, hJx3⟩)
              · have hb3 : Hid (Keep f w W3) := hid ((kpBl hb.out (by exact blBy)).trans hk3)
                have HJ3 := hid hJ3
                clear hJ3 hk3 hy m10 m11 hp1
                gi_wp2
                exact ⟨⟨k + 1, _, by simp, by omega, hid (by rw [List.map_append, HP.out, HTK.out]; simp), HJ3, hb3⟩, by simp [intOf]; omega⟩
              · have HJ3 := hid hJx3
                clear hJx3 hy m10 m11 hp1
                gi_wp2
                refine bodyPost_ret (results_none rfl _ _ _) rfl ?_
                exact ⟨⟨_, rfl⟩, .inr ⟨_, by rw [List.map_append, HP.out]; have := HPX.out; rw [HTK.out] at this; simpa using this, HJ3.out⟩⟩
            · have k2 : ¬ (k : Int) < (v.ms.length : Int) := by omega
              have e1 : v.ms.take k = v.ms := List.take_of_length_le (by omega)
              rw [e1] at HP
              clear e1
              gi_wp2
              exact ⟨⟨j + 1, pre, by simp, by omega, hid (by rw [HP.out, HNJ.out]), HJ0, hb⟩, by simp [intOf]; omega⟩
        · have k1 : ¬ (j : Int) < (xs.length : Int) := by omega
          have e1 : xs.take j = xs := List.take_of_length_le (by omega)
          rw [e1] at HP
          clear e1
          gi_wp2
          exact ⟨⟨i + 1, pre, by simp, by omega, hid (by rw [HP.out, HNX.out]), HJ0, hb⟩, by simp [intOf]; omega⟩
    · have k0 : ¬ (i : Int) < 2 := by omega
      have ei : i = 2 := by omega
      rw [ei] at HP
      clear ei
      gi_wp2
      go_end0
      exact ⟨⟨_, rfl⟩, .inl ⟨pre, by rw [HP.out]; unfold allM; simp, HJ0.out⟩⟩
end Go.Proofs.YtnfdlnelfnigdaaGreatDoor
namespace Go.Proofs.YtnfdlnelfnigdaaGreatDoor
set_option linter.unusedVariables false
set_option linter.unusedSimpArgs false
/-- The greatest depth so far, behind a message at the depth k. -/
def dpW : Nat → Nat → Nat → CM → Nat
  | 0, _, g, _ => g
  | d + 1, k, g, m => m.fs.foldl (fun a f => (allM f).foldl (fun a z => dpW d (k + 1) a z) a) (max g k)
theorem mxL_cons {α : Type} (f : α → Nat) (a : Nat) (x : α) (l : List α) : mxL f a (x :: l) = mxL f (max a (f x)) l := rfl
theorem mxL_app {α : Type} (f : α → Nat) (a : Nat) (l r : List α) : mxL f a (l ++ r) = mxL f (mxL f a l) r := by
  unfold mxL
  exact List.foldl_append
theorem mxL_base {α : Type} (f : α → Nat) : ∀ (l : List α) (a : Nat), mxL f a l = max a (mxL f 0 l)
  | [], a => by simp [mxL]
  | x :: l, a => by
    rw [mxL_cons, mxL_cons, mxL_base f l (max a (f x)), mxL_base f l (max 0 (f x))]
    omega
theorem depVs_mx (dm : CM → Nat) : ∀ (l : List (CV CM)) (a : Nat), depVs dm a l = mxL dm a (l.flatMap CV.ms)
  | [], a => rfl
  | v :: r, a => by
    rw [List.flatMap_cons, mxL_app]
    exact depVs_mx dm r (mxL dm a v.ms)
theorem depF_mx (dm : CM → Nat) (a : Nat) (f : CF CM) : max (max a (depVs dm 0 f.ks)) (depVs dm 0 f.vs) = mxL dm a (allM f) := by
  unfold allM
  rw [mxL_app, depVs_mx, depVs_mx, mxL_base dm _ (mxL dm a _), mxL_base dm _ a]
theorem depFs_mx (dm : CM → Nat) : ∀ (l : List (CF CM)) (a : Nat), l.foldl (fun a f => max (max a (depVs dm 0 f.ks)) (depVs dm 0 f.vs)) a = mxL dm a (l.flatMap allM)
  | [], a => rfl
  | f :: r, a => by
    rw [List.foldl_cons, List.flatMap_cons, mxL_app, depF_mx]
    exact depFs_mx dm r _
theorem depM_succ (d : Nat) (m : CM) : depM (d + 1) m = mxL (depM d) 0 (m.fs.flatMap allM) + 1 := by
  rw [← depFs_mx]
  rfl
theorem mxL_ge {α : Type} (f : α → Nat) (l : List α) (a : Nat) : a ≤ mxL f a l := by rw [mxL_base]; exact Nat.le_max_left _ _
theorem fold_mx {F : Nat → CM → Nat} {G : CM → Nat} {c : Nat} (h : ∀ a z, c ≤ a → F a z = max a (G z)) : ∀ (l : List CM) (a : Nat), c ≤ a → l.foldl F a = mxL G a l
  | [], a, _ => rfl
  | z :: l, a, ha => by
    rw [List.foldl_cons, mxL_cons, h a z ha]
    exact fold_mx h l _ (Nat.le_trans ha (Nat.le_max_left _ _))
theorem foldF_mx {F : Nat → CM → Nat} {G : CM → Nat} {c : Nat} (h : ∀ a z, c ≤ a → F a z = max a (G z)) : ∀ (l : List (CF CM)) (a : Nat), c ≤ a → l.foldl (fun a f => (allM f).foldl F a) a = mxL G a (l.flatMap allM)
  | [], a, _ => rfl
  | f :: l, a, ha => by
    rw [List.foldl_cons, List.flatMap_cons, mxL_app, fold_mx h _ _ ha]
    exact foldF_mx h l _ (Nat.le_trans ha (mxL_ge _ _ _))
theorem mxL_add (G : CM → Nat) (k : Nat) : ∀ (l : List CM) (a : Nat), k ≤ a → mxL (fun z => k + G z) a l = max a (k + mxL G 0 l)
  | [], a, ha => by
    show a = max a (k + 0)
    omega
  | z :: l, a, ha => by
    rw [mxL_cons, mxL_cons, mxL_add G k l _ (by omega), mxL_base G l (max 0 (G z))]
    omega
theorem dpW_eq : ∀ (d k g : Nat) (m : CM), k ≤ g → dpW d (k + 1) g m = max g (k + depM d m)
  | 0, k, g, m, h => by
    show g = max g (k + 0)
    omega
  | d + 1, k, g, m, h => by
    rw [depM_succ]
    show m.fs.foldl (fun a f => (allM f).foldl (fun a z => dpW d (k + 1 + 1) a z) a) (max g (k + 1)) = _
    rw [foldF_mx (c := k + 1) (G := fun z => (k + 1) + depM d z) (fun a z ha => dpW_eq d (k + 1) a z ha) _ _ (by omega), mxL_add _ _ _ _ (by omega)]
    omega
theorem dpW_le (d k g B : Nat) (m : CM) (h1 : k ≤ g) (h2 : g ≤ B) (h3 : k + d ≤ B) : dpW d (k + 1) g m ≤ B := by
  rw [dpW_eq d k g m h1]
  have := depM_le d m
  omega
theorem dpW_ge (d k g : Nat) (m : CM) (h1 : k ≤ g) : g ≤ dpW d (k + 1) g m := by
  rw [dpW_eq d k g m h1]
  exact Nat.le_max_left _ _
theorem dpL_le (d k B : Nat) : ∀ (l : List CM) (g : Nat), k ≤ g → g ≤ B → k + d ≤ B → l.foldl (fun a z => dpW d (k + 1) a z) g ≤ B ∧ g ≤ l.foldl (fun a z => dpW d (k + 1) a z) g
  | [], g, _, h2, _ => ⟨h2, Nat.le_refl _⟩
  | z :: l, g, h1, h2, h3 => by
    rw [List.foldl_cons]
    obtain ⟨a, b⟩ := dpL_le d k B l _ (Nat.le_trans h1 (dpW_ge d k g z h1)) (dpW_le d k g B z h1 h2 h3) h3
    exact ⟨a, Nat.le_trans (dpW_ge d k g z h1) b⟩
theorem depth_of (d : Nat) (m : CM) : dpW d 1 0 m = depM d m := by
  rw [dpW_eq d 0 0 m (Nat.le_refl _)]
  omega
end Go.Proofs.YtnfdlnelfnigdaaGreatDoor
namespace Go.Proofs.YtnfdlnelfnigdaaGreatDoor
open Go.RowKit Go.Shelf
set_option maxRecDepth 1000000
attribute [local go_sem] Oper.semAt_some
set_option linter.unusedVariables false
set_option linter.unusedSimpArgs false
set_option maxHeartbeats 2000000
theorem kpThen {f : Nat → Prop} {w W W' : World} (h : Keep f w W) (g : Below w.heap.size W W') : Keep f w W' := ⟨g.os.trans h.os, g.tape.trans h.tape, g.output.trans h.output, Nat.le_trans h.size g.size, fun k hk hf => (g.block k hk).trans (h.block k hk hf)⟩
theorem kpFirst {f : Nat → Prop} {w W W' : World} (h : Below w.heap.size w W) (g : Keep f W W') : Keep f w W' := (Keep.ofBelow h).trans g
theorem seeT (w : World) (pd : Nat) (g k : Nat) (hp : Blk w pd 3 #[.int .i64 (g : Int)]) (Z : Nat → Prop) (d : Nat) (cs : List Value) (m : CM) (hm : MsgE w Z d cs m) : Calls Tryz.prog 32 #[.int .i64 ((k : Int) + 1), .agg cs.toArray, .pointer (some ⟨pd, 0, none⟩)] w fun e w' => e = .returned (.bool true) ∧ Keep (· ≠ pd) w w' ∧ Blk w' pd 3 #[.int .i64 ((max g (k + 1) : Nat) : Int)] := by
  obtain ⟨ka, kc, va, vc, rfl, -⟩ := msg_openD hm
  have xp := hp.cellF
  have yp := hp.frz
  have zp := hp.lt
  have HP := hid hp
  clear hm hp
  have e1 : ((max g (k + 1) : Nat) : Int) = max (g : Int) ((k : Int) + 1) := by omega
  rw [e1]
  go_enter Tryz.func32, Tryz.ntmps32
  go_wp2
  go_ret
  exact ⟨rfl, kpBl (Keep.setCell (f := (· ≠ pd)) w ⟨pd, 0, none⟩ _ (by simp)) (below_alloc _), ((HP.out.set 0 _).is (by simp)).kept (below_alloc _)⟩
theorem blwDT (w : World) (k : Int) (hk0 : 0 ≤ k) (hk : k ≤ 8000001) (Z : Nat → Prop) (d : Nat) (cs : List Value) (f : CF CM) (hf : FldE w Z (MsgE w Z d) cs f) : Calls Tryz.prog 34 #[.int .i64 k, .agg cs.toArray] w fun e w' => e = .returned (.int .i64 (k + 1)) ∧ Below w.heap.size w w' := by
  obtain ⟨ka, kc, va, vc, rfl, -⟩ := fld_open hf
  clear hf
  have hw : IntKind.i64.wrap (k + 1) = k + 1 := by rw [IntKind.wrap_i64]; omega
  go_enter Tryz.func34, Tryz.ntmps34
  go_wp2
  go_ret
  exact ⟨by first | rfl | simp, by exact blBy⟩
theorem cfSee (args : Array Value) (W : World) : (callFunc 32 args).run Tryz.prog W = .ok (.enter 32 args) W := cf_enter Tryz.func32 (by kernel_rfl) (by kernel_rfl) args W
theorem cfBlwD (args : Array Value) (W : World) : (callFunc 34 args).run Tryz.prog W = .ok (.enter 34 args) W := cf_enter Tryz.func34 (by kernel_rfl) (by kernel_rfl) args W
theorem own_keepD {β : Type} {w3 : World} {p : Nat} {t : TypeId} (g : β → Array Value) (hp : p < w3.heap.size) : OwnFrom w3.heap.size (fun (s : β) W => Keep (· ≠ p) w3 W ∧ Blk W p t (g s)) := fun s A B row hs hg hr =>
  ⟨⟨hg.os.trans hs.1.os, hg.tape.trans hs.1.tape, hg.output.trans hs.1.output, Nat.le_trans hs.1.size hg.size, fun k hk hf => (hg.block k (Nat.lt_of_lt_of_le hk hs.1.size) (fun e => by have := (hr k e.symm).1; omega)).trans (hs.1.block k hk hf)⟩, blk_own hs.2 hg (fun r e => (hr r e).2)⟩
/-- What the walk leaves in the box of the greatest depth. -/
def DwAt (pd d : Nat) : Prop := ∀ (Z : Nat → Prop) (w : World) (k g : Nat) (cs : List Value) (m : CM), (∀ b, Z b → b ≠ pd) → Blk w pd 3 #[.int .i64 (g : Int)] → k ≤ g → g ≤ 8000000 → k + d ≤ 8000000 → MsgE w Z d cs m → Calls Tryz.prog 33 #[.int .i64 ((k : Int) + 1), .agg cs.toArray, .func (.func 32) #[] #[.pointer (some ⟨pd, 0, none⟩)], .func (.func 34) #[] #[]] w fun e w' => e = .returned (.bool true) ∧ Keep (· ≠ pd) w w' ∧ Blk w' pd 3 #[.int .i64 ((dpW d (k + 1) g m : Nat) : Int)]
theorem walkD (pd : Nat) : ∀ d, DwAt pd d
  | 0 => fun _ _ _ _ _ _ _ _ _ _ _ h => h.elim
  | d + 1 => fun Z w k g cs m hZ hp hkg hg hkd h => by
    have IH := hid (walkD pd d)
    obtain ⟨ka, kc, va, vc, rfl, fg, fq, l1, -⟩ := msg_open h
    have HH := hid (fun W (hW : Below w.heap.size w W) => seeT W pd g k (hp.kept hW) Z (d + 1) _ m (h.kept hW))
    have hcf1 := cfSee
    have hcf2 := cfBlwD
    have G := hid fg
    have m1 : (m.fs.length : Int) ≤ 9223372036854775807 := by omega
    have hpd := hp.lt
    have HX : Hid (dpW (d + 1) (k + 1) g m = m.fs.foldl (fun a f => (allM f).foldl (fun a z => dpW d (k + 1 + 1) a z) a) (max g (k + 1))) := hid rfl
    generalize dpW (d + 1) (k + 1) g m = res at *
    clear h fg fq hp
    refine callsIn_wide (n := 3) |>.1 ?_
    refine callsIn_of_wp_marks Tryz.func33 rfl trivial ?_ rfl
    simp only [Tryz.ntmps33, List.size_toArray, List.length_cons, List.length_nil, Nat.reduceAdd, Nat.reduceSub, Array.replicate_succ, Array.replicate_zero, List.push_toArray, List.append_toArray, List.nil_append, List.cons_append]
    gi_wp2_with fail
    refine ⟨trivial, (callsIn_wide.2 (HH.out _ (by exact blBy))).mono ?_⟩
    rintro e w1 ⟨rfl, hbx, Bd⟩
    have B5 : Blk w1 (w.heap.size) 35 #[.slice ka m.fs.length kc, .slice va m.us.length vc] := ((((Blk.new _ _ _).kept (below_alloc _)).kept (below_alloc _)).kept (below_alloc _)).keep hbx (show w.heap.size ≠ pd by omega)
    have B6 : Blk w1 (w.heap.size + 1) 78 #[.func (.func 32) #[] #[.pointer (some ⟨pd, 0, none⟩)]] := (((Blk.newAt (by simp)).kept (below_alloc _)).kept (below_alloc _)).keep hbx (show w.heap.size + 1 ≠ pd by omega)
    have B7 : Blk w1 (w.heap.size + 1 + 1) 80 #[.func (.func 34) #[] #[]] := ((Blk.newAt (by simp)).kept (below_alloc _)).keep hbx (show w.heap.size + 1 + 1 ≠ pd by omega)
    have B8 : Blk w1 (w.heap.size + 1 + 1 + 1) 4 #[.bool false] := (Blk.newAt (by simp)).keep hbx (show w.heap.size + 1 + 1 + 1 ≠ pd by omega)
    have hbz : Hid (Keep (· ≠ pd) w w1) := hid (kpFirst (by exact blBy) hbx)
    have hs1 : w.heap.size + 4 ≤ w1.heap.size := by have := hbx.size; simpa using this
    clear hbx HH
    have x8 := B8.cellF
    have y8 := B8.frz
    have z8 := B8.lt
    have x5 := B5.cellF
    have z5 := B5.lt
    have HBd := hid Bd
    clear Bd
    gi_wp2
    refine wpIn_loop (fun a W => ∃ (j : Nat) (gj : Nat) (Ds : List Nat) (u10 u11 u12 u22 u23 u24 u25 u26 u27 u28 u29 u30 u31 u32 u33 u34 u35 u36 u37 u38 : Value), a = { tmps := #[.int .i64 ((k : Int) + 1), .agg #[.slice ka m.fs.length kc, .slice va m.us.length vc], .func (.func 32) #[] #[.pointer (some ⟨pd, 0, none⟩)], .func (.func 34) #[] #[], undef, .pointer (some ⟨w.heap.size, 0, none⟩), .pointer (some ⟨w.heap.size + 1, 0, none⟩), .pointer (some ⟨w.heap.size + 1 + 1, 0, none⟩), .pointer (some ⟨w.heap.size + 1 + 1 + 1, 0, none⟩), undef, u10, u11, u12, .func (.func 32) #[] #[.pointer (some ⟨pd, 0, none⟩)], .int .i64 ((k : Int) + 1), .agg #[.slice ka m.fs.length kc, .slice va m.us.length vc], .bool true, .bool false, .pointer (some ⟨w.heap.size, 0, none⟩), .slice ka m.fs.length kc, .int .i64 (m.fs.length : Int), .int .i64 (j : Int), u22, u23, u24, u25, u26, u27, u28, u29, u30, u31, u32, u33, u34, u35, u36, u37, u38], defers := Ds.map mkD } ∧ j ≤ m.fs.length ∧ Hid (res = (m.fs.drop j).foldl (fun a f => (allM f).foldl (fun a z => dpW d (k + 1 + 1) a z) a) gj) ∧ Hid (k + 1 ≤ gj ∧ gj ≤ 8000000) ∧ Hid (Blk W pd 3 #[.int .i64 (gj : Int)]) ∧ Hid (Coll W w1.heap.size Ds) ∧ Hid (Keep (· ≠ pd) w1 W)) (fun a _ => m.fs.length - (intOf (a.tmps.getD 21 undef)).toNat) ⟨0, max g (k + 1), [], undef, undef, undef, undef, undef, undef, undef, undef, undef, undef, undef, undef, undef, undef, undef, undef, undef, undef, undef, undef, rfl, by omega, HX, hid ⟨by omega, by omega⟩, HBd, hid (Coll.nil _ _), hid (Keep.refl _ _)⟩ ?_
    rintro a W ⟨j, gj, Ds, u10, u11, u12, u22, u23, u24, u25, u26, u27, u28, u29, u30, u31, u32, u33, u34, u35, u36, u37, u38, rfl, hj, HA, HGJ, HBJ, HC, hb⟩
    have B6' := B6.keep hb.out (show w.heap.size + 1 ≠ pd by omega)
    have B7' := B7.keep hb.out (show w.heap.size + 1 + 1 ≠ pd by omega)
    have B8' := B8.keep hb.out (show w.heap.size + 1 + 1 + 1 ≠ pd by omega)
    have x6 := B6'.cellF
    have z6 := B6'.lt
    have x7 := B7'.cellF
    have z7 := B7'.lt
    clear x5 z5 x8 y8 z8
    by_cases hlt : j < m.fs.length
    · have k2 : (j : Int) < (m.fs.length : Int) := by omega
      obtain ⟨b1, o1, pa, pc, qa, qc, rfl, -, hb1, c0, c1, c2, he⟩ := fls_at (FlsR.go G.out (hbz.out.trans hb.out) hZ (fun _ h => h)) hlt
      have HD : Hid ((m.fs.drop j).foldl (fun a f => (allM f).foldl (fun a z => dpW d (k + 1 + 1) a z) a) gj = (m.fs.drop (j + 1)).foldl (fun a f => (allM f).foldl (fun a z => dpW d (k + 1 + 1) a z) a) ((allM m.fs[j]).foldl (fun a z => dpW d (k + 1 + 1) a z) gj)) := hid (by rw [List.drop_eq_getElem_cons hlt, List.foldl_cons])
      have HFE := hid he
      clear he
      generalize m.fs[j] = f at *
      gi_wp2_with fail
      refine ⟨trivial, (callsIn_wide.2 (blwDT _ ((k : Int) + 1) (by omega) (by omega) Z d _ f (HFE.out.kept (by exact blBy)))).mono ?_⟩
      rintro e w2 ⟨rfl, hbx⟩
      have B10 : Blk w2 W.heap.size 29 #[.int .i64 f.num, .slice pa f.ks.length pc, .slice qa f.vs.length qc] := (Blk.new _ _ _).kept hbx
      have hb2 : Hid (Below W.heap.size W w2) := hid (below_trans (below_alloc _) hbx)
      clear hbx
      have x10 := B10.cellF
      have z10 := B10.lt
      gi_wp2_with fail
      refine ⟨trivial, (callsIn_wide.2 (msgsOfT _ f pa qa pc qc)).mono ?_⟩
      rintro e w3 ⟨rfl, hw3⟩
      have B11 : Blk w3 w2.heap.size 3 #[.int .i64 ((k : Int) + 1 + 1)] := by rw [hw3]; exact (Blk.new _ _ _).kept (below_alloc _)
      have Bq : Blk w3 (w2.heap.size + 1) 29 #[.int .i64 f.num, .slice pa f.ks.length pc, .slice qa f.vs.length qc] := by rw [hw3]; exact Blk.newAt (by simp)
      have hb3 : Hid (Below W.heap.size W w3) := hid (by rw [hw3]; have := hb2.out; exact blBy)
      have hsq : w2.heap.size + 2 ≤ w3.heap.size := by rw [hw3]; simp
      have esq : (w2.alloc (.cells #[.int .i64 ((k : Int) + 1 + 1)] 3)).heap.size = w2.heap.size + 1 := by simp
      rw [esq]
      clear hw3 esq x10 z10 B10 c0 c1 c2 hb1 x6 z6 x7 z7
      have hFX := FldE.old' (HFE.out.kept hb3.out) (fun cs z hz => MsgE.old d cs z hz)
      obtain ⟨_, _, _, _, ef, g1, g2, -⟩ := fld_open hFX
      simp only [List.cons.injEq, Value.slice.injEq, true_and, and_true] at ef
      obtain ⟨⟨rfl, rfl⟩, rfl, rfl⟩ := ef
      have B6q := B6'.kept hb3.out
      have B7q := B7'.kept hb3.out
      have B8q := B8'.kept hb3.out
      have BDq := hid (HBJ.out.kept hb3.out)
      have hbq : Hid (Keep (· ≠ pd) w w3) := hid (kpBl (hbz.out.trans hb.out) hb3.out)
      have hbq1 : Hid (Keep (· ≠ pd) w1 w3) := hid (kpBl hb.out hb3.out)
      have HCq := hid (HC.out.kept hb3.out)
      have hs2 : W.heap.size ≤ w2.heap.size := hb2.out.size
      have hsW := hb.out.size
      have hG1 := HGJ.out.1
      have hG2 := HGJ.out.2
      have hpd3 : pd < w3.heap.size := by omega
      clear B6' B7' B8' hb2 HFE hFX
      gi_wp2_with fail
      refine wpIn_rangeFunc_ownH rfl (by omega) (gf := 107) (lb := #[.pointer (some ⟨w2.heap.size + 1, 0, none⟩)]) rfl trivial cfIter (msgsOf_inK (fun b => b < w3.heap.size ∧ b ≠ pd) w3 (fun b => Z b ∧ b < w3.heap.size) d (3 - 1) (by omega) (w2.heap.size + 1) f pa qa pc qc Bq (fun b hb => ⟨hb.2, hZ b hb.1⟩) g1 g2) keepK_t (keepK_b hpd3) (Below.refl _ _) (fun _ => rfl)
        (fun pre W' => Keep (· ≠ pd) w3 W' ∧ Blk W' pd 3 #[.int .i64 (((pre.map (fun z => z.1.2)).foldl (fun a z => dpW d (k + 1 + 1) a z) gj : Nat) : Int)])
        (fun c pre W' => False)
        (own_keepD (fun (pre : List (XM w3 (fun b => Z b ∧ b < w3.heap.size) d (allM f))) => #[.int .i64 (((pre.map (fun z => z.1.2)).foldl (fun a z => dpW d (k + 1 + 1) a z) gj : Nat) : Int)]) hpd3)
        (fun c => ownFrom_pure _ _)
        ⟨Keep.refl _ _, BDq.out⟩
        (fun z a' W' => ∃ Bx, w3.heap.size ≤ Bx ∧ Blk W' Bx 35 z.1.1.toArray ∧ a' = { tmps := #[.int .i64 ((k : Int) + 1), .agg #[.slice (some ⟨b1, o1, none⟩) m.fs.length kc, .slice va m.us.length vc], .func (.func 32) #[] #[.pointer (some ⟨pd, 0, none⟩)], .func (.func 34) #[] #[], undef, .pointer (some ⟨w.heap.size, 0, none⟩), .pointer (some ⟨w.heap.size + 1, 0, none⟩), .pointer (some ⟨w.heap.size + 1 + 1, 0, none⟩), .pointer (some ⟨w.heap.size + 1 + 1 + 1, 0, none⟩), undef, .pointer (some ⟨W.heap.size, 0, none⟩), .pointer (some ⟨w2.heap.size, 0, none⟩), .pointer (some ⟨Bx, 0, none⟩), .func (.func 32) #[] #[.pointer (some ⟨pd, 0, none⟩)], .int .i64 ((k : Int) + 1), .agg #[.slice (some ⟨b1, o1, none⟩) m.fs.length kc, .slice va m.us.length vc], .bool true, .bool false, .pointer (some ⟨w.heap.size, 0, none⟩), .slice (some ⟨b1, o1, none⟩) m.fs.length kc, .int .i64 (m.fs.length : Int), .int .i64 (j : Int), .bool true, .pointer (some ⟨b1, o1 + j * 3, none⟩), .agg #[.int .i64 f.num, .slice pa f.ks.length pc, .slice qa f.vs.length qc], .func (.func 34) #[] #[], .int .i64 ((k : Int) + 1), .agg #[.int .i64 f.num, .slice pa f.ks.length pc, .slice qa f.vs.length qc], .int .i64 ((k : Int) + 1 + 1), .agg #[.int .i64 f.num, .slice pa f.ks.length pc, .slice qa f.vs.length qc], .func (.func 107) #[] #[.pointer (some ⟨w2.heap.size + 1, 0, none⟩)], .agg z.1.1.toArray, u32, u33, u34, u35, u36, u37, u38], defers := [] })
        (fun z a' _ X Y row hs hg hr => by obtain ⟨Bx, h1, h2, h3⟩ := hs; exact ⟨Bx, h1, blk_own h2 hg (fun r e => (hr r e).2), h3⟩)
        ?assign ?body ?done ?stop
      case assign =>
        rintro l pre z W' K ⟨hK1, hBd⟩ hK
        obtain ⟨⟨zc, zm⟩, hz⟩ := z
        have hz' : MsgE w3 (fun b => Z b ∧ b < w3.heap.size) d zc zm := hz.1
        obtain ⟨fa, fc, ua, uc, e0, -⟩ := msg_openD hz'
        subst e0
        dsimp only [encM] at hK ⊢
        gi_wp2
        exact hK _ _ ((KeepsOthers.alloc _ _).from _) (Keep.ofBelow (below_alloc _)) ⟨kpBl hK1 (below_alloc _), hBd.kept (below_alloc _)⟩ ⟨W'.heap.size, hK1.size, Blk.new _ _ _, rfl⟩
      case body =>
        rintro l pre z a' W' hl ⟨r, hr⟩ ⟨hK1, hBd⟩ ⟨Bx, hBx, bX, rfl⟩ hlt2
        obtain ⟨⟨zc, zm⟩, hz⟩ := z
        have hz' : MsgE w3 (fun b => Z b ∧ b < w3.heap.size) d zc zm := hz.1
        have HZ := hid hz'
        obtain ⟨fa, fc, ua, uc, e0, -⟩ := msg_openD hz'
        subst e0
        dsimp only at bX
        have C6 := B6q.keep hK1 (show w.heap.size + 1 ≠ pd by omega)
        have C7 := B7q.keep hK1 (show w.heap.size + 1 + 1 ≠ pd by omega)
        have C11 := B11.keep hK1 (show w2.heap.size ≠ pd by omega)
        have x6 := C6.cellF
        have z6 := C6.lt
        have x7 := C7.cellF
        have z7 := C7.lt
        have x11 := C11.cellF
        have z11 := C11.lt
        have xX := bX.cellF
        have zX := bX.lt
        have HPL := hid (dpL_le d (k + 1) 8000000 (pre.map (fun z => z.1.2)) gj hG1 hG2 (by omega))
        have HFO : Hid (((pre ++ [(⟨([.slice fa zm.fs.length fc, .slice ua zm.us.length uc], zm), hz⟩ : XM w3 (fun b => Z b ∧ b < w3.heap.size) d (allM f))]).map (fun z => z.1.2)).foldl (fun a z => dpW d (k + 1 + 1) a z) gj = dpW d (k + 1 + 1) ((pre.map (fun z => z.1.2)).foldl (fun a z => dpW d (k + 1 + 1) a z) gj) zm) := hid (by rw [List.map_append, List.foldl_append]; rfl)
        generalize (pre.map (fun z => z.1.2)).foldl (fun a z => dpW d (k + 1 + 1) a z) gj = cur at *
        have HIW := hid (IH.out (fun b => Z b ∧ b < w3.heap.size) W' (k + 1) cur [.slice fa zm.fs.length fc, .slice ua zm.us.length uc] zm (fun b hb => hZ b hb.1) hBd (Nat.le_trans hG1 HPL.out.2) HPL.out.1 (by omega) (MsgE.go hK1 (fun b hb => hZ b hb.1) (fun _ h => h) d _ _ HZ.out))
        rw [show ((k + 1 : Nat) : Int) = (k : Int) + 1 by omega] at HIW
        have HK1 := hid hK1
        clear hK1 hlt2 hBd
        gi_wp2_with fail
        refine ⟨trivial, (CallsIn.inRound l (callsIn_wide.2 HIW.out)).mono ?_⟩
        rintro e W4 ⟨rfl, hb4, Bd4⟩
        have HB4 := hid hb4
        have HBd4 := hid Bd4
        have hsB := HK1.out.size
        have HKF : Hid (KeepsFrom w3.heap.size W' W4) := hid ⟨hb4.size, fun k o h1 hk _ => (hb4.block k (Array.getElem?_eq_some_iff.1 hk).1 (by omega)).trans hk⟩
        clear hb4 HIW x6 z6 x7 z7 x11 z11 xX zX Bd4
        gi_wp2
        exact ⟨HKF.out, HB4.out.weak (fun _ h => h.2), HK1.out.trans HB4.out, by rw [HFO.out]; exact HBd4.out⟩
      case done =>
        rintro D xs W' hD hS ⟨hK1, hBd⟩ hK
        have HK1 := hid hK1
        rw [hS] at hBd
        have HBd2 := hid hBd
        have HPL := hid (dpL_le d (k + 1) 8000000 (allM f) gj hG1 hG2 (by omega))
        have HR : Hid (res = (m.fs.drop (j + 1)).foldl (fun a f => (allM f).foldl (fun a z => dpW d (k + 1 + 1) a z) a) ((allM f).foldl (fun a z => dpW d (k + 1 + 1) a z) gj)) := hid (by rw [HA.out, HD.out])
        generalize (allM f).foldl (fun a z => dpW d (k + 1 + 1) a z) gj = nx at *
        have hsw := hK1.size
        have HCd : Hid (Coll W' w1.heap.size (D :: Ds)) := hid ((HCq.out.keep (fun E hE => hK1.block E (HCq.out.lt hE) (by have := (HCq.out.2 E hE).1; omega))).cons (by omega) (fun h => by have := HCq.out.lt h; omega) hK)
        have hbd : Hid (Keep (· ≠ pd) w1 W') := hid (hbq1.out.trans hK1)
        clear hK1 hS hK hBd
        gi_wp2
        exact ⟨⟨j + 1, nx, D :: Ds, _, _, _, _, _, _, _, _, _, _, _, _, _, _, _, _, _, _, _, _, rfl, by omega, HR, hid ⟨Nat.le_trans hG1 HPL.out.2, HPL.out.1⟩, HBd2, HCd, hbd⟩, by simp [intOf]; omega⟩
      case stop =>
        rintro D c pre W' hD hSp hF hK
        exact hF.elim
    · have k2 : ¬ (j : Int) < (m.fs.length : Int) := by omega
      have HE : Hid (res = gj) := hid (by rw [HA.out, List.drop_of_length_le (by omega)]; rfl)
      have x8 := B8'.cellF
      have y8 := B8'.frz
      have z8 := B8'.lt
      have HB8 := hid (B8'.set 0 (.bool true))
      have hbw : Hid (Keep (· ≠ pd) w W) := hid (hbz.out.trans hb.out)
      have hsW := hb.out.size
      gi_wp2
      refine leave_all (base := w1.heap.size) 3 Ds _ (HC.out.keep (fun D hD => Below.heap_setCell _ _ _ _ (by have := (HC.out.2 D hD).1; simp; omega))) (by simpa [World.setCell] using hsW) (fun W' hW' => ?_)
      have B9 : Blk W' (w.heap.size + 1 + 1 + 1) 4 #[.bool true] := (hW'.block _ (by omega)).trans HB8.out
      have x9 := B9.cellF
      have y9 := B9.frz
      have z9 := B9.lt
      have Bz : Blk W' pd 3 #[.int .i64 (gj : Int)] := (hW'.block _ (by omega)).trans (HBJ.out.other (by simp; omega) _)
      exact ⟨.bool true, by simp [results, Tryz.results33, go_sem, x9, y9, z9], rfl, kpThen (kpThen hbw.out (by have := Below.refl w.heap.size W; exact Below.setCell this (by simp; omega) _)) (hW'.mono (by omega)), by rw [HE.out]; exact Bz⟩
theorem depthT (d : Nat) (hd : d ≤ 4000000) (w : World) (Z : Nat → Prop) (cs : List Value) (m : CM) (h : MsgE w Z d cs m) : Calls Tryz.prog 15 #[.agg cs.toArray] w fun e w' => e = .returned (.int .i64 (depM d m)) ∧ Below w.heap.size w w' := by
  have h0 := MsgE.old d _ _ h
  have HW : Hid (∀ (W : World) (p : Nat), Below w.heap.size w W → w.heap.size ≤ p → Blk W p 3 #[.int .i64 0] → Calls Tryz.prog 33 #[.int .i64 1, .agg cs.toArray, .func (.func 32) #[] #[.pointer (some ⟨p, 0, none⟩)], .func (.func 34) #[] #[]] W fun e w' => e = .returned (.bool true) ∧ Keep (· ≠ p) W w' ∧ Blk w' p 3 #[.int .i64 ((depM d m : Nat) : Int)]) := hid fun W p hW hp hB => by
    have := walkD p d (fun b => Z b ∧ b < w.heap.size) W 0 0 cs m (fun b hb => by have := hb.2; omega) hB (Nat.le_refl _) (by omega) (by omega) (h0.kept hW)
    rw [show dpW d (0 + 1) 0 m = depM d m from depth_of d m] at this
    exact this
  obtain ⟨ka, kc, va, vc, rfl, -⟩ := msg_openD h
  generalize depM d m = res at *
  clear h h0
  go_enter Tryz.func15, Tryz.ntmps15
  go_wp2_with fail
  refine (HW.out _ (w.heap.size + 1) (by exact blBy) (by omega) (Blk.newAt (by simp))).mono ?_
  rintro e w1 ⟨rfl, hk, Bd⟩
  have hb1 : Hid (Below w.heap.size w w1) := hid (Below.trans (by exact blBy) (hk.below (by simp; omega) (fun k hk => by omega)))
  have xd := Bd.cellF
  have zd := Bd.lt
  clear hk
  go_wp2
  go_ret
  exact ⟨rfl, hb1.out⟩
end Go.Proofs.YtnfdlnelfnigdaaGreatDoor
namespace Go.Proofs.YtnfdlnelfnigdaaGreatDoor
open Go.RowKit
set_option maxRecDepth 1000000
set_option linter.unusedVariables false
set_option linter.unusedSimpArgs false
set_option maxHeartbeats 1000000
theorem rowM_blk {α : Type} {W : World} {E : List Value → α → Prop} {k p : Nat} {t : TypeId} (ts : List (Tup k)) (xs : List α) (hl : ts.length = xs.length) (hn : xs.length ≤ 4000000) {cs : Array Value} (B : Blk W p t cs) (hc : cs = (ts.flatMap Subtype.val).toArray) (he : ∀ (i : Nat) (t : Tup k) (x : α), ts[i]? = some t → xs[i]? = some x → E t.1 x) : RowM W AnyZ k E (.slice (some ⟨p, 0, none⟩) xs.length xs.length) xs :=
  ⟨ts, rowOf B k xs.length _ hc (by rw [← hl]; exact flatM_len (fun x => x.2) ts) (by omega), hl, hn, he⟩
theorem rowM_one {α : Type} {W : World} {E : List Value → α → Prop} {k p : Nat} {t : TypeId} {cs : List Value} {x : α} (B : Blk W p t cs.toArray) (hk : cs.length = k) (he : E cs x) : RowM W AnyZ k E (.slice (some ⟨p, 0, none⟩) 1 1) [x] :=
  rowM_blk [⟨cs, hk⟩] [x] rfl (by simp) B (by simp) (fun i t y h1 h2 => by
    cases i with
    | zero => simp at h1 h2; subst h1 h2; exact he
    | succ i => simp at h1)
theorem rowM_two {α : Type} {W : World} {E : List Value → α → Prop} {k p : Nat} {t : TypeId} {cs ds : List Value} {x y : α} {es : Array Value} (B : Blk W p t es) (hes : es = (cs ++ ds).toArray) (hk : cs.length = k) (hk2 : ds.length = k) (he : E cs x) (he2 : E ds y) : RowM W AnyZ k E (.slice (some ⟨p, 0, none⟩) 2 2) [x, y] :=
  rowM_blk [⟨cs, hk⟩, ⟨ds, hk2⟩] [x, y] rfl (by simp) B (by rw [hes]; simp) (fun i t z h1 h2 => by
    match i, h1, h2 with
    | 0, h1, h2 => simp at h1 h2; subst h1 h2; exact he
    | 1, h1, h2 => simp at h1 h2; subst h1 h2; exact he2
    | i + 2, h1, _ => simp at h1)
theorem by_nil (W : World) (Z : Nat → Prop) : ByE W Z (.slice none 0 0) [] := ⟨rowS_nil _ _ _, by simp, by simp⟩
theorem val_num (W : World) (Z : Nat → Prop) (R : List Value → CM → Prop) (n : Int) (hn : U64 n) : ValE W Z R [.int .u64 n, .slice none 0 0, .slice none 0 0] ⟨n, [], []⟩ := ⟨_, _, rfl, by_nil W Z, RowM.nil _ _ _ _, hn⟩
/-- A field of one number. -/
def nF (k n : Int) : CF CM := ⟨k, [], [⟨n, [], []⟩]⟩
theorem nW (w : World) (k v : Int) (hk : I64 k) (n : Int) (hv : (IntKind.u64.wrap v) = n) (hn : U64 n) (d : Nat) : Calls Tryz.prog 10 #[.int .i64 k, .int .i64 v] w fun e w' => ∃ cs : List Value, e = .returned (.agg cs.toArray) ∧ cs.length = 3 ∧ FldE w' AnyZ (MsgE w' AnyZ d) cs (nF k n) ∧ Below w.heap.size w w' := by
  go_enter Tryz.func10, Tryz.ntmps10
  go_wp2
  have B : Blk ((w.alloc (.cells #[.int .i64 k, .slice none 0 0, .slice (some ⟨w.heap.size + 1, 0, none⟩) 1 1] 29)).alloc (.cells #[.int .u64 n, .slice none 0 0, .slice none 0 0] 26)) (w.heap.size + 1) 26 #[.int .u64 n, .slice none 0 0, .slice none 0 0] := Blk.newAt (by simp)
  exact bodyPost_ret (v := .agg #[.int .i64 k, .slice none 0 0, .slice (some ⟨w.heap.size + 1, 0, none⟩) 1 1]) (by simp [results, Tryz.results10, go_sem]) rfl ⟨[.int .i64 k, .slice none 0 0, .slice (some ⟨w.heap.size + 1, 0, none⟩) 1 1], rfl, rfl, ⟨_, _, rfl, RowM.nil _ _ _ _, rowM_one (cs := [.int .u64 n, .slice none 0 0, .slice none 0 0]) B rfl (val_num _ _ _ n hn), hk⟩, by exact blBy⟩
theorem MsgE.any {w : World} {Z : Nat → Prop} {d : Nat} {cs : List Value} {m : CM} (h : MsgE w Z d cs m) : MsgE w AnyZ d cs m := MsgE.go (Keep.refl (fun _ => True) w) (fun _ _ => trivial) (fun _ _ => trivial) d _ _ h
/-- A field of one message. -/
def inF (k : Int) (m : CM) : CF CM := ⟨k, [], [⟨0, [], [m]⟩]⟩
theorem inW (w : World) (k : Int) (hk : I64 k) (Z : Nat → Prop) (d : Nat) (cs : List Value) (m : CM) (hm : MsgE w Z d cs m) : Calls Tryz.prog 12 #[.int .i64 k, .agg cs.toArray] w fun e w' => ∃ cs : List Value, e = .returned (.agg cs.toArray) ∧ cs.length = 3 ∧ FldE w' AnyZ (MsgE w' AnyZ d) cs (inF k m) ∧ Below w.heap.size w w' := by
  have HM := hid hm.any
  obtain ⟨fa, fc, ua, uc, rfl, -⟩ := msg_openD hm
  clear hm
  go_enter Tryz.func12, Tryz.ntmps12
  go_wp2
  have B2 : Blk ((((w.alloc (.cells #[.slice fa m.fs.length fc, .slice ua m.us.length uc] 35)).alloc (.cells #[.int .i64 k, .slice none 0 0, .slice (some ⟨w.heap.size + 1 + 1 + 1, 0, none⟩) 1 1] 29)).alloc (.cells #[.slice fa m.fs.length fc, .slice ua m.us.length uc] 35)).alloc (.cells #[.int .u64 0, .slice none 0 0, .slice (some ⟨w.heap.size + 1 + 1, 0, none⟩) 1 1] 26)) (w.heap.size + 1 + 1) 35 #[.slice fa m.fs.length fc, .slice ua m.us.length uc] := (Blk.newAt (by simp)).kept (below_alloc _)
  have B3 : Blk ((((w.alloc (.cells #[.slice fa m.fs.length fc, .slice ua m.us.length uc] 35)).alloc (.cells #[.int .i64 k, .slice none 0 0, .slice (some ⟨w.heap.size + 1 + 1 + 1, 0, none⟩) 1 1] 29)).alloc (.cells #[.slice fa m.fs.length fc, .slice ua m.us.length uc] 35)).alloc (.cells #[.int .u64 0, .slice none 0 0, .slice (some ⟨w.heap.size + 1 + 1, 0, none⟩) 1 1] 26)) (w.heap.size + 1 + 1 + 1) 26 #[.int .u64 0, .slice none 0 0, .slice (some ⟨w.heap.size + 1 + 1, 0, none⟩) 1 1] := Blk.newAt (by simp)
  have HB : Below w.heap.size w ((((w.alloc (.cells #[.slice fa m.fs.length fc, .slice ua m.us.length uc] 35)).alloc (.cells #[.int .i64 k, .slice none 0 0, .slice (some ⟨w.heap.size + 1 + 1 + 1, 0, none⟩) 1 1] 29)).alloc (.cells #[.slice fa m.fs.length fc, .slice ua m.us.length uc] 35)).alloc (.cells #[.int .u64 0, .slice none 0 0, .slice (some ⟨w.heap.size + 1 + 1, 0, none⟩) 1 1] 26)) := by exact blBy
  have HK := HM.out.kept HB
  exact bodyPost_ret (v := .agg #[.int .i64 k, .slice none 0 0, .slice (some ⟨w.heap.size + 1 + 1 + 1, 0, none⟩) 1 1]) (by simp [results, Tryz.results12, go_sem]) rfl ⟨[.int .i64 k, .slice none 0 0, .slice (some ⟨w.heap.size + 1 + 1 + 1, 0, none⟩) 1 1], rfl, rfl, ⟨_, _, rfl, RowM.nil _ _ _ _, rowM_one (cs := [.int .u64 0, .slice none 0 0, .slice (some ⟨w.heap.size + 1 + 1, 0, none⟩) 1 1]) B3 rfl ⟨_, _, rfl, by_nil _ _, rowM_one (cs := [.slice fa m.fs.length fc, .slice ua m.us.length uc]) B2 rfl HK, (show U64 0 from ⟨by decide, by decide⟩)⟩, hk⟩, HB⟩
theorem msgW (w : World) (a : Option Addr) (n c : Nat) : Calls Tryz.prog 9 #[.slice a n c] w fun e w' => e = .returned (.agg #[.slice a n c, .slice none 0 0]) ∧ Below w.heap.size w w' := by
  go_enter Tryz.func9, Tryz.ntmps9
  go_wp2
  exact bodyPost_ret (v := .agg #[.slice a n c, .slice none 0 0]) (by simp [results, Tryz.results9, go_sem]) rfl ⟨rfl, by exact blBy⟩
theorem typedLW (w : World) (mx : Int) (hm0 : w.cell? ⟨0, 0, none⟩ = some (.int .i64 mx)) (Z : Nat → Prop) (d : Nat) (cs : List Value) (m : CM) (hm : MsgE w Z d cs m) (is want : Bool) (hi : ∀ h, keptB (simL h) d (simM h) m = is) : Calls Tryz.prog 8 #[.agg cs.toArray, .bool want] w fun e w' => e = .returned (.bool (is == want)) ∧ Below w.heap.size w w' := by
  have HT : Hid (∀ (W : World) (h : Nat) (a : Option Addr), Below w.heap.size w W → TbR W (.slice a (simL h).length 2) (simL h) → Calls Tryz.prog 17 #[.agg #[.slice a (simL h).length 2], .int .i64 1, .agg cs.toArray] W fun e w' => e = .returned (.tuple #[.bool is, .int .i64 0]) ∧ Below W.heap.size W w') := hid fun W h a hW hT => by
    have := typedT W (simL h) a 2 hT (simOk h) mx (cell_below hm0 hW) 1 (by show 1 < 2; decide) (simGood h) rfl Z d cs m (hm.kept hW)
    rw [show keptB (simL h) d ((simL h)[1]'(by show 1 < 2; decide)) m = is from hi h] at this
    exact this
  obtain ⟨fa, fc, ua, uc, rfl, -⟩ := msg_openD hm
  clear hm hm0 hi
  go_enter Tryz.func8, Tryz.ntmps8
  go_upto_region 1 with fail
  have Bm : Blk (w.alloc (.cells #[.slice fa m.fs.length fc, .slice ua m.us.length uc] 35)) w.heap.size 35 #[.slice fa m.fs.length fc, .slice ua m.us.length uc] := Blk.new _ _ _
  have HB : Hid (Below w.heap.size w (w.alloc (.cells #[.slice fa m.fs.length fc, .slice ua m.us.length uc] 35))) := hid (by exact blBy)
  generalize (w.alloc (.cells #[.slice fa m.fs.length fc, .slice ua m.us.length uc] 35)) = W at *
  have f0 : W.cell? ⟨w.heap.size, 0, none⟩ = some (.slice fa m.fs.length fc) := Bm.cell 0 _ rfl
  have f1 : W.cell? ⟨w.heap.size, 1, none⟩ = some (.slice ua m.us.length uc) := Bm.cell 1 _ rfl
  clear Bm
  go_region_held3 (fun W => W.cell? ⟨w.heap.size, 0, none⟩ = some (.slice fa m.fs.length fc) ∧ W.cell? ⟨w.heap.size, 1, none⟩ = some (.slice ua m.us.length uc)) (exact ⟨f0, f1⟩) (first | (go_at_call 14; refine (simpleW _).mono ?_; rintro e w2 ⟨rfl, ht, hbx⟩; replace f0 := cell_below f0 (below_trans (by first | exact Below.refl _ _ | exact below_drew1 _ | exact below_drewN _ _) hbx); replace f1 := cell_below f1 (below_trans (by first | exact Below.refl _ _ | exact below_drew1 _ | exact below_drewN _ _) hbx); replace HB := hid (below_trans HB.out (below_trans (by first | exact Below.refl _ _ | exact below_drew1 _ | exact below_drewN _ _) hbx)); have HT1 := hid ht; clear ht hbx) | (go_at_call 17; refine (HT.out _ _ _ (by have := HB.out; exact blBy) (HT1.out.kept (by first | exact Below.refl _ _ | exact below_drew1 _ | exact below_drewN _ _))).mono ?_; rintro e w3 ⟨rfl, hbx⟩; replace f0 := cell_below f0 (below_trans (by first | exact Below.refl _ _ | exact below_drew1 _ | exact below_drewN _ _) hbx); replace f1 := cell_below f1 (below_trans (by first | exact Below.refl _ _ | exact below_drew1 _ | exact below_drewN _ _) hbx); replace HB := hid (below_trans HB.out (below_trans (by first | exact Below.refl _ _ | exact below_drew1 _ | exact below_drewN _ _) hbx)); clear hbx))
  all_goals go_wp2
  all_goals (go_ret; exact ⟨ret_bool (by cases is <;> cases want <;> rfl), by have := HB.out; exact blBy⟩)
theorem normalLW (w : World) (mx : Int) (hm0 : w.cell? ⟨0, 0, none⟩ = some (.int .i64 mx)) (Z : Nat → Prop) (d : Nat) (cs : List Value) (m : CM) (hm : MsgE w Z d cs m) (is want : Bool) (hi : ∀ h, normB (simL h) d (simM h) m = is) : Calls Tryz.prog 11 #[.agg cs.toArray, .bool want] w fun e w' => e = .returned (.bool (is == want)) ∧ Below w.heap.size w w' := by
  have HT : Hid (∀ (W : World) (h : Nat) (a : Option Addr), Below w.heap.size w W → TbR W (.slice a (simL h).length 2) (simL h) → Calls Tryz.prog 18 #[.agg #[.slice a (simL h).length 2], .int .i64 1, .agg cs.toArray] W fun e w' => e = .returned (.tuple #[.bool is, .int .i64 0]) ∧ Below W.heap.size W w') := hid fun W h a hW hT => by
    have := normalT W (simL h) a 2 hT (simOk h) mx (cell_below hm0 hW) 1 (by show 1 < 2; decide) (simGood h) rfl Z d cs m (hm.kept hW)
    rw [show normB (simL h) d ((simL h)[1]'(by show 1 < 2; decide)) m = is from hi h] at this
    exact this
  obtain ⟨fa, fc, ua, uc, rfl, -⟩ := msg_openD hm
  clear hm hm0 hi
  go_enter Tryz.func11, Tryz.ntmps11
  go_upto_region 1 with fail
  have Bm : Blk (w.alloc (.cells #[.slice fa m.fs.length fc, .slice ua m.us.length uc] 35)) w.heap.size 35 #[.slice fa m.fs.length fc, .slice ua m.us.length uc] := Blk.new _ _ _
  have HB : Hid (Below w.heap.size w (w.alloc (.cells #[.slice fa m.fs.length fc, .slice ua m.us.length uc] 35))) := hid (by exact blBy)
  generalize (w.alloc (.cells #[.slice fa m.fs.length fc, .slice ua m.us.length uc] 35)) = W at *
  have f0 : W.cell? ⟨w.heap.size, 0, none⟩ = some (.slice fa m.fs.length fc) := Bm.cell 0 _ rfl
  have f1 : W.cell? ⟨w.heap.size, 1, none⟩ = some (.slice ua m.us.length uc) := Bm.cell 1 _ rfl
  clear Bm
  go_region_held3 (fun W => W.cell? ⟨w.heap.size, 0, none⟩ = some (.slice fa m.fs.length fc) ∧ W.cell? ⟨w.heap.size, 1, none⟩ = some (.slice ua m.us.length uc)) (exact ⟨f0, f1⟩) (first | (go_at_call 14; refine (simpleW _).mono ?_; rintro e w2 ⟨rfl, ht, hbx⟩; replace f0 := cell_below f0 (below_trans (by first | exact Below.refl _ _ | exact below_drew1 _ | exact below_drewN _ _) hbx); replace f1 := cell_below f1 (below_trans (by first | exact Below.refl _ _ | exact below_drew1 _ | exact below_drewN _ _) hbx); replace HB := hid (below_trans HB.out (below_trans (by first | exact Below.refl _ _ | exact below_drew1 _ | exact below_drewN _ _) hbx)); have HT1 := hid ht; clear ht hbx) | (go_at_call 18; refine (HT.out _ _ _ (by have := HB.out; exact blBy) (HT1.out.kept (by first | exact Below.refl _ _ | exact below_drew1 _ | exact below_drewN _ _))).mono ?_; rintro e w3 ⟨rfl, hbx⟩; replace f0 := cell_below f0 (below_trans (by first | exact Below.refl _ _ | exact below_drew1 _ | exact below_drewN _ _) hbx); replace f1 := cell_below f1 (below_trans (by first | exact Below.refl _ _ | exact below_drew1 _ | exact below_drewN _ _) hbx); replace HB := hid (below_trans HB.out (below_trans (by first | exact Below.refl _ _ | exact below_drew1 _ | exact below_drewN _ _) hbx)); clear hbx))
  all_goals go_wp2
  all_goals (go_ret; exact ⟨ret_bool (by cases is <;> cases want <;> rfl), by have := HB.out; exact blBy⟩)
end Go.Proofs.YtnfdlnelfnigdaaGreatDoor
