/-
  Copy: what the program answers.
  The messages of a field, one by one, where what is done with them writes.
  Copy: what the program answers, at every depth.
  Copy: what the program answers: every message in new memory.
  Get, Clear: what the program answers.
  Depth, Get: what the document answers.
  Plain mathematics for the layer wire: the digits of a varint, reading them, zigzag; nothing of the program.
  Plain mathematics for words and chunks; nothing of the program.
-/
import Derived.Test.YtgephggcgopfgaaGreatDoorCTA
import Derived.Test.YtgephggcgopfgaaGreatDoorCTG
import Derived.Test.YtgephggcgopfgaaGreatDoorCAA
import Derived.Test.YtgephggcgopfgaaGreatDoorCAG
import Derived.Test.YtgephggcgopfgaaGreatDoorShelf
import Derived.Test.YtgephggcgopfgaaGreatDoorCTP
import Derived.Test.YtgephggcgopfgaaGreatDoorCTY
import Derived.Test.YtgephggcgopfgaaGreatDoorCAR
import Derived.Test.YtgephggcgopfgaaGreatDoorCAX
import Derived.Test.YtgephggcgopfgaaGreatDoorCBA
import Derived.Test.YtgephggcgopfgaaGreatDoorCOB
import Derived.Test.YtgephggcgopfgaaGreatDoorCNA1
import Derived.Test.YtgephggcgopfgaaGreatDoorNF
import Derived.Test.YtgephggcgopfgaaGreatDoorCNG
import Derived.Test.YtgephggcgopfgaaGreatDoorCI
import Derived.Test.YtgephggcgopfgaaGreatDoorCCJ
import Derived.Test.YtgephggcgopfgaaGreatDoorCBG
import Derived.Test.YtgephggcgopfgaaGreatDoorCw8WP
import Derived.Deep.RegionHeld3
import Derived.Laws.EntriesVeiled
import Derived.Lib.VarintBits
import Derived.Lib.Zigzag
import Derived.RowKit
import Derived.Laws.BytesArg
namespace Go.Proofs.YtgephggcgopfgaaGreatDoor
open Go.RowKit
set_option maxRecDepth 1000000
set_option linter.unusedVariables false
set_option linter.unusedSimpArgs false
set_option maxHeartbeats 2000000
/-- Copy's walk at a depth. -/
def CpAt (d : Nat) : Prop := ∀ (w : World) (Z : Nat → Prop) (cs : List Value) (m : CM), MsgE w Z d cs m → Calls Tryz.prog 62 #[.agg #[], .agg cs.toArray, .func (.func 60) #[] #[], .func (.func 61) #[] #[]] w (NewE (FmM d) w m)
theorem newMsgT (d : Nat) (HC : CpAt d) (w : World) (Z : Nat → Prop) (cs : List Value) (m : CM) (h : MsgE w Z d cs m) (p4 p6 p7 : Nat) (hB : CpB w p4 p6 p7) : Calls Tryz.prog 110 #[.agg cs.toArray, .pointer (some ⟨p4, 0, none⟩), .pointer (some ⟨p6, 0, none⟩), .pointer (some ⟨p7, 0, none⟩)] w (NewE (FmM d) w m) := by
  obtain ⟨ka, kc, va, vc, rfl, -⟩ := msg_openD h
  have H := hid h
  replace HC := hid HC
  have xs := hB.s.cellF
  have zs := hB.s.lt
  have xb := hB.b.cellF
  have zb := hB.b.lt
  have zk := hB.k.lt
  clear h hB
  go_enter Tryz.func110, Tryz.ntmps110
  go_wp2_with fail
  refine (HC.out _ Z [.slice ka m.fs.length kc, .slice va m.us.length vc] m (H.out.kept (by exact blBy))).mono ?_
  rintro e w1 ⟨ds, rfl, hn, hbx⟩
  have Br : Blk w1 (w.heap.size + 1) 35 #[.slice none 0 0, .slice none 0 0] := (Blk.newAt (by simp)).kept hbx
  have HN : Hid (MsgE w1 (w.heap.size + 2 ≤ ·) d ds m) := hid (MsgE.go (Keep.refl (fun _ => True) w1) (fun _ _ => trivial) (fun k hk => by simpa using hk) d _ _ hn)
  have hbz : Hid (Below w.heap.size w w1) := hid (bl_then (by exact blBy) hbx)
  clear hbx hn xs zs xb zb zk
  obtain ⟨fa, fc, ua, uc, rfl, -⟩ := msg_openD HN.out
  have xr := Br.cellF
  have yr := Br.frz
  have zr := Br.lt
  go_wp2
  exact bodyPost_ret (v := .agg #[.slice fa m.fs.length fc, .slice ua m.us.length uc]) (by simp [results, Tryz.results110, go_sem, xr, zr, yr]) rfl (NewE.mk [.slice fa m.fs.length fc, .slice ua m.us.length uc] (MsgE.go (f := (w.heap.size + 2 ≤ ·)) (by with_reducible repeat (first | exact Keep.refl _ _ | refine kpS ?_ (by first | (simp; done) | (simp; omega) | omega) | refine kpA ?_ _ | refine kpD ?_ | refine kpN ?_ _)) (fun _ h => h) (fun k hk => by omega) d _ _ HN.out) (by have := hbz.out; exact blBy))
theorem cfM (args : Array Value) (W : World) : (callFunc 110 args).run Tryz.prog W = .ok (.enter 110 args) W := cf_enter Tryz.func110 (by kernel_rfl) (by kernel_rfl) args W
theorem cfV (args : Array Value) (W : World) : (callFunc 111 args).run Tryz.prog W = .ok (.enter 111 args) W := cf_enter Tryz.func111 (by kernel_rfl) (by kernel_rfl) args W
theorem cfF (args : Array Value) (W : World) : (callFunc 109 args).run Tryz.prog W = .ok (.enter 109 args) W := cf_enter Tryz.func109 (by kernel_rfl) (by kernel_rfl) args W
theorem newValT (d : Nat) (HC : CpAt d) (w : World) (Z : Nat → Prop) (cs : List Value) (x : CV CM) (h : ValE w Z (MsgE w Z d) cs x) (p4 p6 p7 p8 : Nat) (hB : CpB w p4 p6 p7) (hN : Blk w p8 57 #[.func (.func 110) #[] #[.pointer (some ⟨p4, 0, none⟩), .pointer (some ⟨p6, 0, none⟩), .pointer (some ⟨p7, 0, none⟩)]]) : Calls Tryz.prog 111 #[.agg cs.toArray, .pointer (some ⟨p8, 0, none⟩)] w (NewE (FmV d) w x) := by
  obtain ⟨ka, kc, va, vc, rfl, g, q, -, -, hu⟩ := val_open h
  have HBY : Hid (∀ W, Below w.heap.size w W → Calls Tryz.prog 78 #[.slice ka x.b.length kc] W fun e w' => ∃ a' c', e = .returned (.slice a' x.b.length c') ∧ ByE w' (W.heap.size ≤ ·) (.slice a' x.b.length c') x.b ∧ Below W.heap.size W w') := hid fun W hW => newBytesT W Z ka kc x.b (g.kept hW)
  have HMG : Hid (∀ W, Below w.heap.size w W → Calls Tryz.prog 79 #[.slice va x.ms.length vc, .func (.func 110) #[] #[.pointer (some ⟨p4, 0, none⟩), .pointer (some ⟨p6, 0, none⟩), .pointer (some ⟨p7, 0, none⟩)]] W (NewL 2 (FmM d) W x.ms)) := hid fun W hW => by
    have := turnedM W Z d d x.ms va vc (q.kept hW) 110 #[.pointer (some ⟨p4, 0, none⟩), .pointer (some ⟨p6, 0, none⟩), .pointer (some ⟨p7, 0, none⟩)] cfM id (fun W' hW' cs m _ hm => newMsgT d HC W' Z cs m hm p4 p6 p7 (hB.kept (below_trans hW hW')))
    rw [List.map_id] at this
    exact this
  have HU := hid hu
  have f3 : w.cell? ⟨p8, 0, none⟩ = some (.func (.func 110) #[] #[.pointer (some ⟨p4, 0, none⟩), .pointer (some ⟨p6, 0, none⟩), .pointer (some ⟨p7, 0, none⟩)]) := hN.cell 0 _ rfl
  have z8 := hN.lt
  clear h hB hN g q hu HC
  go_enter Tryz.func111, Tryz.ntmps111
  go_upto_region 1 with fail
  have Bx : Blk ((w.alloc (.cells #[.int .u64 x.n, .slice ka x.b.length kc, .slice va x.ms.length vc] 26)).alloc (.cells #[.int .u64 0, .slice none 0 0, .slice none 0 0] 26)) w.heap.size 26 #[.int .u64 x.n, .slice ka x.b.length kc, .slice va x.ms.length vc] := (Blk.new _ _ _).kept (below_alloc _)
  have Br : Blk ((w.alloc (.cells #[.int .u64 x.n, .slice ka x.b.length kc, .slice va x.ms.length vc] 26)).alloc (.cells #[.int .u64 0, .slice none 0 0, .slice none 0 0] 26)) (w.heap.size + 1) 26 #[.int .u64 0, .slice none 0 0, .slice none 0 0] := Blk.newAt (by simp)
  replace f3 := cell_below f3 (by exact blBy : Below w.heap.size w ((w.alloc (.cells #[.int .u64 x.n, .slice ka x.b.length kc, .slice va x.ms.length vc] 26)).alloc (.cells #[.int .u64 0, .slice none 0 0, .slice none 0 0] 26)))
  have HB : Hid (Below w.heap.size w ((w.alloc (.cells #[.int .u64 x.n, .slice ka x.b.length kc, .slice va x.ms.length vc] 26)).alloc (.cells #[.int .u64 0, .slice none 0 0, .slice none 0 0] 26))) := hid (by exact blBy)
  have hsz : w.heap.size + 2 ≤ ((w.alloc (.cells #[.int .u64 x.n, .slice ka x.b.length kc, .slice va x.ms.length vc] 26)).alloc (.cells #[.int .u64 0, .slice none 0 0, .slice none 0 0] 26)).heap.size := by simp
  generalize ((w.alloc (.cells #[.int .u64 x.n, .slice ka x.b.length kc, .slice va x.ms.length vc] 26)).alloc (.cells #[.int .u64 0, .slice none 0 0, .slice none 0 0] 26)) = W at *
  have f0 : W.cell? ⟨w.heap.size, 0, none⟩ = some (.int .u64 x.n) := Bx.cell 0 _ rfl
  have f1 : W.cell? ⟨w.heap.size, 1, none⟩ = some (.slice ka x.b.length kc) := Bx.cell 1 _ rfl
  have f2 : W.cell? ⟨w.heap.size, 2, none⟩ = some (.slice va x.ms.length vc) := Bx.cell 2 _ rfl
  have hp1 : w.heap.size ≠ w.heap.size + 1 := by omega
  have hp2 : p8 ≠ w.heap.size + 1 := by omega
  clear Bx z8
  have HS := hid hsz
  clear hsz
  have xr := Br.cellF
  have yr := Br.frz
  have zr := Br.lt
  go_region_held3 (fun W => W.cell? ⟨w.heap.size, 0, none⟩ = some (.int .u64 x.n) ∧ W.cell? ⟨w.heap.size, 1, none⟩ = some (.slice ka x.b.length kc) ∧ W.cell? ⟨w.heap.size, 2, none⟩ = some (.slice va x.ms.length vc) ∧ W.cell? ⟨p8, 0, none⟩ = some (.func (.func 110) #[] #[.pointer (some ⟨p4, 0, none⟩), .pointer (some ⟨p6, 0, none⟩), .pointer (some ⟨p7, 0, none⟩)])) (first | exact ⟨f0, f1, f2, f3⟩ | exact ⟨cs3 f0 hp1, cs3 f1 hp1, cs3 f2 hp1, cs3 f3 hp2⟩) (first | (go_at_call 78; refine (HBY.out _ (by have := HB.out; exact blBy)).mono ?_; rintro e w1 ⟨a1, c1, rfl, hn, hbx⟩; replace f0 := cell_below f0 (below_trans (by first | exact Below.refl _ _ | exact below_drew1 _ | exact below_drewN _ _) hbx); replace f1 := cell_below f1 (below_trans (by first | exact Below.refl _ _ | exact below_drew1 _ | exact below_drewN _ _) hbx); replace f2 := cell_below f2 (below_trans (by first | exact Below.refl _ _ | exact below_drew1 _ | exact below_drewN _ _) hbx); replace f3 := cell_below f3 (below_trans (by first | exact Below.refl _ _ | exact below_drew1 _ | exact below_drewN _ _) hbx); replace Br := Br.kept (below_trans (by first | exact Below.refl _ _ | exact below_drew1 _ | exact below_drewN _ _) hbx); replace xr := Br.cellF; replace yr := Br.frz; replace zr := Br.lt; replace HB := hid (below_trans HB.out (below_trans (by first | exact Below.refl _ _ | exact below_drew1 _ | exact below_drewN _ _) hbx)); have H1 : Hid (ByE w1 (w.heap.size + 2 ≤ ·) (.slice a1 x.b.length c1) x.b) := hid (hn.weak (fun k hk => Nat.le_trans HS.out hk)); (try replace H2 := hid (MgsR.kept H2.out (below_trans (by first | exact Below.refl _ _ | exact below_drew1 _ | exact below_drewN _ _) hbx))); replace HS := hid (Nat.le_trans HS.out (Below.size (below_trans (by first | exact Below.refl _ _ | exact below_drew1 _ | exact below_drewN _ _) hbx))); clear hn hbx) | (go_at_call 79; refine (HMG.out _ (by have := HB.out; exact blBy)).mono ?_; rintro e w2 ⟨a2, c2, rfl, hn, hbx⟩; replace f0 := cell_below f0 (below_trans (by first | exact Below.refl _ _ | exact below_drew1 _ | exact below_drewN _ _) hbx); replace f1 := cell_below f1 (below_trans (by first | exact Below.refl _ _ | exact below_drew1 _ | exact below_drewN _ _) hbx); replace f2 := cell_below f2 (below_trans (by first | exact Below.refl _ _ | exact below_drew1 _ | exact below_drewN _ _) hbx); replace f3 := cell_below f3 (below_trans (by first | exact Below.refl _ _ | exact below_drew1 _ | exact below_drewN _ _) hbx); replace Br := Br.kept (below_trans (by first | exact Below.refl _ _ | exact below_drew1 _ | exact below_drewN _ _) hbx); replace xr := Br.cellF; replace yr := Br.frz; replace zr := Br.lt; replace HB := hid (below_trans HB.out (below_trans (by first | exact Below.refl _ _ | exact below_drew1 _ | exact below_drewN _ _) hbx)); have H2 : Hid (MgsR w2 (w.heap.size + 2 ≤ ·) d (.slice a2 x.ms.length c2) x.ms) := hid ((hn.weak (fun k hk => Nat.le_trans HS.out hk)).imp (fun cs m _ hm => MsgE.go (Keep.refl (fun _ => True) w2) (fun _ _ => trivial) (fun k hk => Nat.le_trans HS.out hk) d _ _ hm)); (try replace H1 := hid (H1.out.kept (below_trans (by first | exact Below.refl _ _ | exact below_drew1 _ | exact below_drewN _ _) hbx))); replace HS := hid (Nat.le_trans HS.out (Below.size (below_trans (by first | exact Below.refl _ _ | exact below_drew1 _ | exact below_drewN _ _) hbx))); clear hn hbx))
  all_goals go_wp2
  all_goals exact bodyPost_ret (v := .agg #[.int .u64 x.n, .slice a1 x.b.length c1, .slice a2 x.ms.length c2]) (by simp [results, Tryz.results111, go_sem, xr, zr, yr]) rfl (NewE.mk [.int .u64 x.n, .slice a1 x.b.length c1, .slice a2 x.ms.length c2] ⟨_, _, rfl, (H1.out.keep (f := (w.heap.size + 2 ≤ ·)) (by with_reducible repeat (first | exact Keep.refl _ _ | refine kpS ?_ (by first | (simp; done) | (simp; omega) | omega) | refine kpA ?_ _ | refine kpD ?_ | refine kpN ?_ _)) (fun _ h => h)).weak (fun k hk => by omega), MgsR.go H2.out (f := (w.heap.size + 2 ≤ ·)) (by with_reducible repeat (first | exact Keep.refl _ _ | refine kpS ?_ (by first | (simp; done) | (simp; omega) | omega) | refine kpA ?_ _ | refine kpD ?_ | refine kpN ?_ _)) (fun _ h => h) (fun k hk => by omega), HU.out⟩ (by have := HB.out; exact blBy))
end Go.Proofs.YtgephggcgopfgaaGreatDoor
namespace Go.Proofs.YtgephggcgopfgaaGreatDoor
open Go.RowKit Go.Shelf
set_option maxRecDepth 1000000
attribute [local go_sem] Oper.semAt_some
set_option linter.unusedVariables false
set_option linter.unusedSimpArgs false
set_option maxHeartbeats 2000000
theorem kpBl {f : Nat → Prop} {w W W' : World} (h : Keep f w W) (g : Below W.heap.size W W') : Keep f w W' := h.trans (Keep.ofBelow g)
theorem keepK_t {f : Nat → Prop} {A B C : World} (h : Keep f A B) (k : Keep f B C) : Keep f A C := h.trans k
theorem keepK_b {w : World} {p : Nat} (hp : p < w.heap.size) (W : World) (l : Nat) (o o' : Obj) (hl : w.heap.size ≤ l) (h : W.heap[l]? = some o) (h1 : o.isCells = false) (h2 : o.isWalk = false) : Keep (fun k => k < w.heap.size ∧ k ≠ p) W (W.putObj l o') := ⟨rfl, rfl, rfl, by simp [World.putObj], fun k _ hf => by simp [World.putObj, Array.getElem?_setIfInBounds]; omega⟩
theorem msgsOf_inK (f : Nat → Prop) (w : World) (Z : Nat → Prop) (d : Nat) (n : Nat) (hn : 1 ≤ n) (p : Nat) (x : CF CM) (ka va : Option Addr) (kc vc : Nat) (hp : Blk w p 29 #[.int .i64 x.num, .slice ka x.ks.length kc, .slice va x.vs.length vc]) (hZf : ∀ k, Z k → f k) (h1 : VlsR w Z d (.slice ka x.ks.length kc) x.ks) (h2 : VlsR w Z d (.slice va x.vs.length vc) x.vs) :
    SeqStopsK Fence.wide n Tryz.prog 122 #[.pointer (some ⟨p, 0, none⟩)] (encM (w := w) (Z := Z) (d := d) (L := allM x)) (Keep f) (fun xs => xs.map (fun y => y.1.2) = allM x) (fun xs => xs.map (fun y => y.1.2) <+: allM x) (allM x).length w := by
  intro l J Jx W hW hJ hJx hY h0
  have H1 := hid h1
  have H2 := hid h2
  have HJ := hid hJ
  have HY := hid hY
  have HW := hid hW
  have Bp := hp.kept hW
  have xp := Bp.cellF
  have zp := Bp.lt
  clear h1 h2 hp hJ hJx hY hW Bp
  refine callsIn_of_wp Tryz.func122 rfl trivial ?_ rfl
  simp only [Tryz.ntmps122, List.size_toArray, List.length_cons, List.length_nil, Nat.reduceAdd, Nat.reduceSub, Array.replicate_succ, Array.replicate_zero, List.push_toArray, List.append_toArray, List.nil_append, List.cons_append]
  gi_wp2
  gi_loopw [14] (fun s wr => ∃ (i : Nat) (pre : List (XM w Z d (allM x))), s = .int .i64 i ∧ i ≤ 2 ∧ Hid (pre.map (fun y => y.1.2) = (([x.ks, x.vs] : List (List (CV CM))).take i).flatMap (fun l => l.flatMap CV.ms)) ∧ Hid (J pre wr) ∧ Hid (Keep f w wr)) (fun s _ => 2 - (intOf s).toNat)
  case atStart => exact ⟨0, [], rfl, by omega, hid rfl, hid h0, hid (Keep.ofBelow HW.out)⟩
  case round =>
    obtain ⟨i, pre, rfl, hi, HP, HJ0, hb⟩ := hrel
    by_cases hlt : i < 2
    · have k0 : (i : Int) < 2 := by omega
      obtain ⟨xs, la, lc, P0, R0, hidx, HV, HP0, HAL, HNX⟩ : ∃ (xs : List (CV CM)) (la : Option Addr) (lc : Nat) (P0 R0 : List CM), (∀ W, (Instr.index 149 (.agg #[.slice ka x.ks.length kc, .slice va x.vs.length vc]) (.int .i64 (i : Int))).run Tryz.prog W = .ok (.slice la xs.length lc) W) ∧ Hid (VlsR w Z d (.slice la xs.length lc) xs) ∧ Hid (pre.map (fun y => y.1.2) = P0) ∧ Hid (allM x = P0 ++ (xs.flatMap CV.ms ++ R0)) ∧ Hid ((([x.ks, x.vs] : List (List (CV CM))).take (i + 1)).flatMap (fun l => l.flatMap CV.ms) = P0 ++ xs.flatMap CV.ms) := by
        have ei : i = 0 ∨ i = 1 := by omega
        rcases ei with rfl | rfl
        · exact ⟨x.ks, ka, kc, [], x.vs.flatMap CV.ms, fun W => by rfl, H1, hid (by rw [HP.out]; rfl), hid rfl, hid (by simp)⟩
        · exact ⟨x.vs, va, vc, x.ks.flatMap CV.ms, [], fun W => by rfl, H2, hid (by rw [HP.out]; simp), hid (by unfold allM; simp), hid (by simp)⟩
      obtain ⟨_, _, e1, l1⟩ := RowM.sl HV.out
      clear e1
      have m1 : (xs.length : Int) ≤ 9223372036854775807 := by omega
      clear HP
      gi_wp2
      gi_loopw [19] (fun s wr => ∃ (j : Nat) (pre : List (XM w Z d (allM x))), s = .int .i64 j ∧ j ≤ xs.length ∧ Hid (pre.map (fun y => y.1.2) = P0 ++ (xs.take j).flatMap CV.ms) ∧ Hid (J pre wr) ∧ Hid (Keep f w wr)) (fun s _ => xs.length - (intOf s).toNat)
      case atStart => exact ⟨0, pre, rfl, by omega, hid (by rw [HP0.out]; simp), HJ0, hb⟩
      case round =>
        clear HJ0 hb
        obtain ⟨j, pre, rfl, hj, HP, HJ0, hb⟩ := hrel
        by_cases hjl : j < xs.length
        · have k1 : (j : Int) < (xs.length : Int) := by omega
          obtain ⟨b1, o1, ba1, bc1, ma1, mc1, rfl, hz1, hb1, c0, c1, c2, he⟩ := vls_at HV.out hjl
          obtain ⟨_, _, _, _, e1, -, q1, -, ml1, -⟩ := val_open he
          simp only [List.cons.injEq, Value.slice.injEq, true_and, and_true] at e1
          obtain ⟨⟨rfl, rfl⟩, rfl, rfl⟩ := e1
          have Q := hid q1
          have HSP := hid (fun k (hk : k < xs[j].ms.length) => flat_split hjl hk)
          have HNJ := hid (flat_next hjl)
          replace c0 := cell_kp c0 hb.out (hZf _ hz1)
          replace c1 := cell_kp c1 hb.out (hZf _ hz1)
          replace c2 := cell_kp c2 hb.out (hZf _ hz1)
          replace hb1 : b1 < wr.heap.size := World.block_lt_of_cell? _ _ c0
          clear he q1
          generalize xs[j] = v at *
          have ml3 : (v.ms.length : Int) ≤ 9223372036854775807 := by omega
          gi_wp2
          gi_loopw [26] (fun s wr => ∃ (k : Nat) (pre : List (XM w Z d (allM x))), s = .int .i64 k ∧ k ≤ v.ms.length ∧ Hid (pre.map (fun y => y.1.2) = P0 ++ ((xs.take j).flatMap CV.ms ++ v.ms.take k)) ∧ Hid (J pre wr) ∧ Hid (Keep f w wr)) (fun s _ => v.ms.length - (intOf s).toNat)
          case atStart => exact ⟨0, pre, rfl, by omega, hid (by rw [HP.out]; simp), hid (abide_alloc HJ.out HJ0.out _), hid (kpBl hb.out (by exact blBy))⟩
          case round =>
            clear HJ0 hb HP c0 c1 c2 hb1
            obtain ⟨k, pre, rfl, hk, HP, HJ0, hb⟩ := hrel
            by_cases hkl : k < v.ms.length
            · have k2 : (k : Int) < (v.ms.length : Int) := by omega
              obtain ⟨p1, r1, fa1, fc1, ua1, uc1, rfl, hz2, hp1, m10, m11, hm1⟩ := mgs_at' Q.out hkl
              have HSK := hid (HSP.out k hkl)
              have HTK : Hid (v.ms.take (k + 1) = v.ms.take k ++ [v.ms[k]]) := hid (List.take_succ_eq_append_getElem hkl)
              replace m10 := cell_kp m10 hb.out (hZf _ hz2)
              replace m11 := cell_kp m11 hb.out (hZf _ hz2)
              replace hp1 : p1 < wr.heap.size := World.block_lt_of_cell? _ _ m10
              generalize v.ms[k] = m at *
              have HLN : pre.length < (allM x).length := by
                have e1 : pre.length = (P0 ++ ((xs.take j).flatMap CV.ms ++ v.ms.take k)).length := by rw [← HP.out, List.length_map]
                rw [e1, HAL.out, HSK.out]
                simp only [List.length_append, List.length_cons]
                omega
              have HPX : Hid (P0 ++ ((xs.take j).flatMap CV.ms ++ v.ms.take (k + 1)) <+: allM x) := hid (by
                rw [HAL.out, HSK.out, HTK.out]
                exact ⟨v.ms.drop (k + 1) ++ (xs.drop (j + 1)).flatMap CV.ms ++ R0, by simp only [List.append_assoc, List.cons_append, List.nil_append]⟩)
              have HME : Hid (MsgE w Z d [.slice fa1 m.fs.length fc1, .slice ua1 m.us.length uc1] m) := hid hm1
              have HIN : Hid (m ∈ allM x) := hid (by rw [HAL.out, HSK.out]; simp)
              clear hm1
              obtain ⟨fn, tmps, assign, body, hy, hR⟩ := HY.out pre ⟨([.slice fa1 m.fs.length fc1, .slice ua1 m.us.length uc1], m), HME.out, HIN.out⟩ (wr.alloc (.cells #[.slice fa1 m.fs.length fc1, .slice ua1 m.us.length uc1] 35)) (abide_alloc HJ.out HJ0.out _) HLN
              dsimp only [encM] at hy
              have HR := hid hR
              clear hR HLN
              gi_wp2
              refine HR.out.mono ?_
              rintro e W3 (⟨rfl, hJ3, hk3⟩ | ⟨rfl, hJx3⟩)
              · have hb3 : Hid (Keep f w W3) := hid ((kpBl hb.out (by exact blBy)).trans hk3)
                have HJ3 := hid hJ3
                clear hJ3 hk3 hy m10 m11 hp1
                gi_wp2
                exact ⟨⟨k + 1, _, by simp, by omega, hid (by rw [List.map_append, HP.out, HTK.out]; simp), HJ3, hb3⟩, by simp [intOf]; omega⟩
              · have HJ3 := hid hJx3
                clear hJx3 hy m10 m11 hp1
                gi_wp2
                refine bodyPost_ret (results_none rfl _ _ _) rfl ?_
                exact ⟨⟨_, rfl⟩, .inr ⟨_, by rw [List.map_append, HP.out]; have := HPX.out; rw [HTK.out] at this; simpa using this, HJ3.out⟩⟩
            · have k2 : ¬ (k : Int) < (v.ms.length : Int) := by omega
              have e1 : v.ms.take k = v.ms := List.take_of_length_le (by omega)
              rw [e1] at HP
              clear e1
              gi_wp2
              exact ⟨⟨j + 1, pre, by simp, by omega, hid (by rw [HP.out, HNJ.out]), HJ0, hb⟩, by simp [intOf]; omega⟩
        · have k1 : ¬ (j : Int) < (xs.length : Int) := by omega
          have e1 : xs.take j = xs := List.take_of_length_le (by omega)
          rw [e1] at HP
          clear e1
          gi_wp2
          exact ⟨⟨i + 1, pre, by simp, by omega, hid (by rw [HP.out, HNX.out]), HJ0, hb⟩, by simp [intOf]; omega⟩
    · have k0 : ¬ (i : Int) < 2 := by omega
      have ei : i = 2 := by omega
      rw [ei] at HP
      clear ei
      gi_wp2
      go_end0
      exact ⟨⟨_, rfl⟩, .inl ⟨pre, by rw [HP.out]; unfold allM; simp, HJ0.out⟩⟩
end Go.Proofs.YtgephggcgopfgaaGreatDoor
namespace Go.Proofs.YtgephggcgopfgaaGreatDoor
open Go.RowKit
set_option maxRecDepth 1000000
set_option linter.unusedVariables false
set_option linter.unusedSimpArgs false
set_option maxHeartbeats 2000000
theorem nothingT (w : World) (cs : List Value) (x : CF CM) (Z : Nat → Prop) (d : Nat) (h : FldE w Z (MsgE w Z d) cs x) : Calls Tryz.prog 61 #[.agg #[], .agg cs.toArray] w fun e w' => e = .returned (.agg #[]) ∧ Below w.heap.size w w' := by
  obtain ⟨ka, kc, va, vc, rfl, -⟩ := fld_open h
  clear h
  go_enter Tryz.func61, Tryz.ntmps61
  go_wp2
  exact bodyPost_ret (v := .agg #[]) (by simp [results, Tryz.results61, go_sem]) rfl ⟨rfl, by exact blBy⟩
theorem wholeT (w : World) (cs : List Value) (m : CM) (Z : Nat → Prop) (d : Nat) (h : MsgE w Z d cs m) : Calls Tryz.prog 60 #[.agg #[], .agg cs.toArray] w fun e w' => e = .returned (.agg cs.toArray) ∧ Below w.heap.size w w' := by
  obtain ⟨ka, kc, va, vc, rfl, -⟩ := msg_openD h
  clear h
  go_enter Tryz.func60, Tryz.ntmps60
  go_wp2
  exact bodyPost_ret (v := .agg #[.slice ka m.fs.length kc, .slice va m.us.length vc]) (by simp [results, Tryz.results60, go_sem]) rfl ⟨rfl, by exact blBy⟩
theorem newFieldT (d : Nat) (HC : CpAt d) (w : World) (Z : Nat → Prop) (cs : List Value) (x : CF CM) (h : FldE w Z (MsgE w Z d) cs x) (p4 p6 p7 : Nat) (hB : CpB w p4 p6 p7) : Calls Tryz.prog 109 #[.agg cs.toArray, .pointer (some ⟨p7, 0, none⟩), .pointer (some ⟨p4, 0, none⟩), .pointer (some ⟨p6, 0, none⟩)] w (NewE (FmF d) w x) := by
  have h0 := h
  obtain ⟨ka, kc, va, vc, rfl, g, q, -, -, hu⟩ := fld_open h
  have HV : Hid (∀ (W : World) (pi q8 : Nat), Below w.heap.size w W → CpB W pi p6 p7 → Blk W q8 57 #[.func (.func 110) #[] #[.pointer (some ⟨pi, 0, none⟩), .pointer (some ⟨p6, 0, none⟩), .pointer (some ⟨p7, 0, none⟩)]] → ∀ (xs : List (CV CM)) (a : Option Addr) (c : Nat), VlsR W Z d (.slice a xs.length c) xs → Calls Tryz.prog 80 #[.slice a xs.length c, .func (.func 111) #[] #[.pointer (some ⟨q8, 0, none⟩)]] W (NewL 3 (FmV d) W xs)) := hid fun W pi q8 hW hB2 hN xs a c hx => by
    have := turnedV W Z d d xs a c hx 111 #[.pointer (some ⟨q8, 0, none⟩)] cfV id (fun W' hW' cs m _ hm => newValT d HC W' Z cs m hm pi p6 p7 q8 (hB2.kept hW') (hN.kept hW'))
    rw [List.map_id] at this
    exact this
  have HNO := hid (fun W (hW : Below w.heap.size w W) => nothingT W _ x Z d (h0.kept hW))
  have HU := hid hu
  have G := hid g
  have Q := hid q
  have HBB := hid hB
  have xs6 := hB.s.cellF
  have zs6 := hB.s.lt
  have xb7 := hB.b.cellF
  have zb7 := hB.b.lt
  have zk4 := hB.k.lt
  clear h h0 hB g q hu HC
  go_enter Tryz.func109, Tryz.ntmps109
  go_wp2_with fail
  refine (HNO.out _ (by exact blBy)).mono ?_
  rintro e w1 ⟨rfl, hbx⟩
  have Bx : Blk w1 w.heap.size 29 #[.int .i64 x.num, .slice ka x.ks.length kc, .slice va x.vs.length vc] := ((Blk.new _ _ _).kept (below_alloc _)).kept hbx
  have Br : Blk w1 (w.heap.size + 1) 29 #[.int .i64 0, .slice none 0 0, .slice none 0 0] := (Blk.newAt (by simp)).kept hbx
  have hbz : Hid (Below w.heap.size w w1) := hid (bl_then (by exact blBy) hbx)
  have hs1 : w.heap.size + 2 ≤ w1.heap.size := by have := hbx.size; simpa using this
  clear hbx xs6 zs6 xb7 zb7 zk4 HNO
  go_upto_region 4 with fail
  have BB : CpB ((w1.alloc (.cells #[] 104)).alloc (.cells #[.func (.func 110) #[] #[.pointer (some ⟨w1.heap.size, 0, none⟩), .pointer (some ⟨p6, 0, none⟩), .pointer (some ⟨p7, 0, none⟩)]] 57)) w1.heap.size p6 p7 := ⟨(Blk.new _ _ _).kept (below_alloc _), ((HBB.out.kept hbz.out).s.kept (below_alloc _)).kept (below_alloc _), ((HBB.out.kept hbz.out).b.kept (below_alloc _)).kept (below_alloc _)⟩
  have BN : Blk ((w1.alloc (.cells #[] 104)).alloc (.cells #[.func (.func 110) #[] #[.pointer (some ⟨w1.heap.size, 0, none⟩), .pointer (some ⟨p6, 0, none⟩), .pointer (some ⟨p7, 0, none⟩)]] 57)) (w1.heap.size + 1) 57 #[.func (.func 110) #[] #[.pointer (some ⟨w1.heap.size, 0, none⟩), .pointer (some ⟨p6, 0, none⟩), .pointer (some ⟨p7, 0, none⟩)]] := Blk.newAt (by simp)
  replace Bx := (Bx.kept (below_alloc (.cells #[] 104))).kept (below_alloc (.cells #[.func (.func 110) #[] #[.pointer (some ⟨w1.heap.size, 0, none⟩), .pointer (some ⟨p6, 0, none⟩), .pointer (some ⟨p7, 0, none⟩)]] 57))
  replace Br := (Br.kept (below_alloc (.cells #[] 104))).kept (below_alloc (.cells #[.func (.func 110) #[] #[.pointer (some ⟨w1.heap.size, 0, none⟩), .pointer (some ⟨p6, 0, none⟩), .pointer (some ⟨p7, 0, none⟩)]] 57))
  have HB : Hid (Below w.heap.size w ((w1.alloc (.cells #[] 104)).alloc (.cells #[.func (.func 110) #[] #[.pointer (some ⟨w1.heap.size, 0, none⟩), .pointer (some ⟨p6, 0, none⟩), .pointer (some ⟨p7, 0, none⟩)]] 57))) := hid (by have := hbz.out; exact blBy)
  have HS : Hid (w.heap.size + 2 ≤ ((w1.alloc (.cells #[] 104)).alloc (.cells #[.func (.func 110) #[] #[.pointer (some ⟨w1.heap.size, 0, none⟩), .pointer (some ⟨p6, 0, none⟩), .pointer (some ⟨p7, 0, none⟩)]] 57)).heap.size) := hid (by simp; omega)
  generalize ((w1.alloc (.cells #[] 104)).alloc (.cells #[.func (.func 110) #[] #[.pointer (some ⟨w1.heap.size, 0, none⟩), .pointer (some ⟨p6, 0, none⟩), .pointer (some ⟨p7, 0, none⟩)]] 57)) = W at *
  have HT : Hid (∀ W', Below W.heap.size W W' → ∀ (xs : List (CV CM)) (a : Option Addr) (c : Nat), VlsR w Z d (.slice a xs.length c) xs → Calls Tryz.prog 80 #[.slice a xs.length c, .func (.func 111) #[] #[.pointer (some ⟨w1.heap.size + 1, 0, none⟩)]] W' (NewL 3 (FmV d) W' xs)) := hid fun W' hW' xs a c hx => HV.out W' w1.heap.size (w1.heap.size + 1) (below_trans HB.out hW') (BB.kept hW') (BN.kept hW') xs a c (hx.kept (below_trans HB.out hW'))
  have HG : Hid (Below W.heap.size W W) := hid (Below.refl _ _)
  have f0 : W.cell? ⟨w.heap.size, 0, none⟩ = some (.int .i64 x.num) := Bx.cell 0 _ rfl
  have f1 : W.cell? ⟨w.heap.size, 1, none⟩ = some (.slice ka x.ks.length kc) := Bx.cell 1 _ rfl
  have f2 : W.cell? ⟨w.heap.size, 2, none⟩ = some (.slice va x.vs.length vc) := Bx.cell 2 _ rfl
  have hp1 : w.heap.size ≠ w.heap.size + 1 := by omega
  have xr := Br.cellF
  have yr := Br.frz
  have zr := Br.lt
  clear Bx BB BN HBB HV hbz hs1
  generalize w1.heap.size + 1 = q8 at *
  go_region_held3 (fun W => W.cell? ⟨w.heap.size, 0, none⟩ = some (.int .i64 x.num) ∧ W.cell? ⟨w.heap.size, 1, none⟩ = some (.slice ka x.ks.length kc) ∧ W.cell? ⟨w.heap.size, 2, none⟩ = some (.slice va x.vs.length vc)) (first | exact ⟨f0, f1, f2⟩ | exact ⟨cs3 f0 hp1, cs3 f1 hp1, cs3 f2 hp1⟩) (first | (go_at_call_of 80 (Value.slice ka x.ks.length kc); refine (HT.out _ (by have := HG.out; exact blBy) x.ks ka kc G.out).mono ?_; rintro e w2 ⟨a1, c1, rfl, hn, hbx⟩; replace f0 := cell_below f0 (below_trans (by first | exact Below.refl _ _ | exact below_drew1 _ | exact below_drewN _ _) hbx); replace f1 := cell_below f1 (below_trans (by first | exact Below.refl _ _ | exact below_drew1 _ | exact below_drewN _ _) hbx); replace f2 := cell_below f2 (below_trans (by first | exact Below.refl _ _ | exact below_drew1 _ | exact below_drewN _ _) hbx); replace Br := Br.kept (below_trans (by first | exact Below.refl _ _ | exact below_drew1 _ | exact below_drewN _ _) hbx); replace xr := Br.cellF; replace yr := Br.frz; replace zr := Br.lt; replace HB := hid (below_trans HB.out (below_trans (by first | exact Below.refl _ _ | exact below_drew1 _ | exact below_drewN _ _) hbx)); replace HG := hid (below_trans HG.out (below_trans (by first | exact Below.refl _ _ | exact below_drew1 _ | exact below_drewN _ _) hbx)); have H1 : Hid (VlsR w2 (w.heap.size + 2 ≤ ·) d (.slice a1 x.ks.length c1) x.ks) := hid (VlsR.go hn (Keep.refl (fun _ => True) w2) (fun _ _ => trivial) (fun k hk => Nat.le_trans HS.out hk)); (try replace H2 := hid (VlsR.kept H2.out (below_trans (by first | exact Below.refl _ _ | exact below_drew1 _ | exact below_drewN _ _) hbx))); replace HS := hid (Nat.le_trans HS.out (Below.size (below_trans (by first | exact Below.refl _ _ | exact below_drew1 _ | exact below_drewN _ _) hbx))); clear hn hbx) | (go_at_call_of 80 (Value.slice va x.vs.length vc); refine (HT.out _ (by have := HG.out; exact blBy) x.vs va vc Q.out).mono ?_; rintro e w3 ⟨a2, c2, rfl, hn, hbx⟩; replace f0 := cell_below f0 (below_trans (by first | exact Below.refl _ _ | exact below_drew1 _ | exact below_drewN _ _) hbx); replace f1 := cell_below f1 (below_trans (by first | exact Below.refl _ _ | exact below_drew1 _ | exact below_drewN _ _) hbx); replace f2 := cell_below f2 (below_trans (by first | exact Below.refl _ _ | exact below_drew1 _ | exact below_drewN _ _) hbx); replace Br := Br.kept (below_trans (by first | exact Below.refl _ _ | exact below_drew1 _ | exact below_drewN _ _) hbx); replace xr := Br.cellF; replace yr := Br.frz; replace zr := Br.lt; replace HB := hid (below_trans HB.out (below_trans (by first | exact Below.refl _ _ | exact below_drew1 _ | exact below_drewN _ _) hbx)); replace HG := hid (below_trans HG.out (below_trans (by first | exact Below.refl _ _ | exact below_drew1 _ | exact below_drewN _ _) hbx)); have H2 : Hid (VlsR w3 (w.heap.size + 2 ≤ ·) d (.slice a2 x.vs.length c2) x.vs) := hid (VlsR.go hn (Keep.refl (fun _ => True) w3) (fun _ _ => trivial) (fun k hk => Nat.le_trans HS.out hk)); (try replace H1 := hid (VlsR.kept H1.out (below_trans (by first | exact Below.refl _ _ | exact below_drew1 _ | exact below_drewN _ _) hbx))); replace HS := hid (Nat.le_trans HS.out (Below.size (below_trans (by first | exact Below.refl _ _ | exact below_drew1 _ | exact below_drewN _ _) hbx))); clear hn hbx))
  all_goals go_wp2
  all_goals exact bodyPost_ret (v := .agg #[.int .i64 x.num, .slice a1 x.ks.length c1, .slice a2 x.vs.length c2]) (by simp [results, Tryz.results109, go_sem, xr, zr, yr]) rfl (NewE.mk [.int .i64 x.num, .slice a1 x.ks.length c1, .slice a2 x.vs.length c2] ⟨_, _, rfl, VlsR.go H1.out (f := (w.heap.size + 2 ≤ ·)) (by with_reducible repeat (first | exact Keep.refl _ _ | refine kpS ?_ (by first | (simp; done) | (simp; omega) | omega) | refine kpA ?_ _ | refine kpD ?_ | refine kpN ?_ _)) (fun _ h => h) (fun k hk => by omega), VlsR.go H2.out (f := (w.heap.size + 2 ≤ ·)) (by with_reducible repeat (first | exact Keep.refl _ _ | refine kpS ?_ (by first | (simp; done) | (simp; omega) | omega) | refine kpA ?_ _ | refine kpD ?_ | refine kpN ?_ _)) (fun _ h => h) (fun k hk => by omega), HU.out⟩ (by have := HB.out; exact blBy))
end Go.Proofs.YtgephggcgopfgaaGreatDoor
namespace Go.Proofs.YtgephggcgopfgaaGreatDoor
open Go.RowKit
set_option maxRecDepth 1000000
set_option linter.unusedVariables false
set_option linter.unusedSimpArgs false
set_option maxHeartbeats 2000000
theorem rebuiltT : ∀ d, CpAt d
  | 0 => fun _ _ _ _ h => h.elim
  | d + 1 => fun w Z cs m h => by
    have HC := rebuiltT d
    have h0 := h
    obtain ⟨ka, kc, va, vc, rfl, g, q, -⟩ := msg_open h
    have HT : Hid (∀ (W : World) (p4 p6 p7 : Nat), Below w.heap.size w W → CpB W p4 p6 p7 → Calls Tryz.prog 81 #[.slice ka m.fs.length kc, .func (.func 109) #[] #[.pointer (some ⟨p7, 0, none⟩), .pointer (some ⟨p4, 0, none⟩), .pointer (some ⟨p6, 0, none⟩)]] W (NewL 3 (FmF d) W m.fs)) := hid fun W p4 p6 p7 hW hB => by
      have := turnedF W Z d d m.fs ka kc (g.kept hW) 109 #[.pointer (some ⟨p7, 0, none⟩), .pointer (some ⟨p4, 0, none⟩), .pointer (some ⟨p6, 0, none⟩)] cfF id (fun W' hW' cs x _ hx => newFieldT d HC W' Z cs x hx p4 p6 p7 (hB.kept hW'))
      rw [List.map_id] at this
      exact this
    have HE : Hid (∀ (W : World), Below w.heap.size w W → Calls Tryz.prog 82 #[.slice va m.us.length vc, .func (.func 83) #[] #[]] W (NewL 4 FmE W m.us)) := hid fun W hW => by
      have := turnedE W Z m.us va vc (q.kept hW) 83 #[] cfE id (fun W' hW' cs x _ hx => newEntryT W' Z cs x hx)
      rw [List.map_id] at this
      exact this
    have HW := hid (fun W (hW : Below w.heap.size w W) => wholeT W _ m Z (d + 1) (h0.kept hW))
    clear h h0 g q HC
    go_enter Tryz.func62, Tryz.ntmps62
    go_wp2_with fail
    refine (HW.out _ (by exact blBy)).mono ?_
    rintro e w1 ⟨rfl, hbx⟩
    have B4 : Blk w1 w.heap.size 104 #[] := (((((Blk.new _ _ _).kept (below_alloc _)).kept (below_alloc _)).kept (below_alloc _)).kept (below_alloc _)).kept hbx
    have B5 : Blk w1 (w.heap.size + 1) 35 #[.slice ka m.fs.length kc, .slice va m.us.length vc] := ((((Blk.newAt (by simp)).kept (below_alloc _)).kept (below_alloc _)).kept (below_alloc _)).kept hbx
    have B6 : Blk w1 (w.heap.size + 1 + 1) 105 #[.func (.func 60) #[] #[]] := (((Blk.newAt (by simp)).kept (below_alloc _)).kept (below_alloc _)).kept hbx
    have B7 : Blk w1 (w.heap.size + 1 + 1 + 1) 106 #[.func (.func 61) #[] #[]] := ((Blk.newAt (by simp)).kept (below_alloc _)).kept hbx
    have Br : Blk w1 (w.heap.size + 1 + 1 + 1 + 1) 35 #[.slice none 0 0, .slice none 0 0] := (Blk.newAt (by simp)).kept hbx
    have hbz : Hid (Below w.heap.size w w1) := hid (bl_then (by exact blBy) hbx)
    have hs1 : w.heap.size + 5 ≤ w1.heap.size := by have := hbx.size; simpa using this
    clear hbx HW
    have x5 := B5.cellF
    have y5 := B5.frz
    have z5 := B5.lt
    go_upto_region 3 with fail
    have BB : CpB ((w1.setCell ⟨w.heap.size + 1, 0, none⟩ (.slice ka m.fs.length kc)).setCell ⟨w.heap.size + 1, 1, none⟩ (.slice va m.us.length vc)) w.heap.size (w.heap.size + 1 + 1) (w.heap.size + 1 + 1 + 1) := ⟨(B4.other (by simp) _).other (by simp) _, (B6.other (by simp) _).other (by simp) _, (B7.other (by simp; omega) _).other (by simp; omega) _⟩
    replace B5 := (B5.set 0 (.slice ka m.fs.length kc)).set 1 (.slice va m.us.length vc)
    replace Br := (Br.other (a := ⟨w.heap.size + 1, 0, none⟩) (by simp; omega) (.slice ka m.fs.length kc)).other (a := ⟨w.heap.size + 1, 1, none⟩) (by simp; omega) (.slice va m.us.length vc)
    have HB : Hid (Below w.heap.size w ((w1.setCell ⟨w.heap.size + 1, 0, none⟩ (.slice ka m.fs.length kc)).setCell ⟨w.heap.size + 1, 1, none⟩ (.slice va m.us.length vc))) := hid (by have := hbz.out; exact blBy)
    have HS : Hid (w.heap.size + 5 ≤ ((w1.setCell ⟨w.heap.size + 1, 0, none⟩ (.slice ka m.fs.length kc)).setCell ⟨w.heap.size + 1, 1, none⟩ (.slice va m.us.length vc)).heap.size) := hid (by simpa using hs1)
    clear x5 y5 z5 B4 B6 B7 hs1 hbz
    generalize ((w1.setCell ⟨w.heap.size + 1, 0, none⟩ (.slice ka m.fs.length kc)).setCell ⟨w.heap.size + 1, 1, none⟩ (.slice va m.us.length vc)) = W at *
    have f0 : W.cell? ⟨w.heap.size + 1, 0, none⟩ = some (.slice ka m.fs.length kc) := B5.cell 0 _ (by simp)
    have f1 : W.cell? ⟨w.heap.size + 1, 1, none⟩ = some (.slice va m.us.length vc) := B5.cell 1 _ (by simp)
    have hp1 : w.heap.size + 1 ≠ w.heap.size + 1 + 1 + 1 + 1 := by omega
    have HBB := hid BB
    have xr := Br.cellF
    have yr := Br.frz
    have zr := Br.lt
    clear B5 BB
    go_region_held3 (fun W => W.cell? ⟨w.heap.size + 1, 0, none⟩ = some (.slice ka m.fs.length kc) ∧ W.cell? ⟨w.heap.size + 1, 1, none⟩ = some (.slice va m.us.length vc)) (first | exact ⟨f0, f1⟩ | exact ⟨cs2 f0 hp1, cs2 f1 hp1⟩) (first | (go_at_call 81; refine (HT.out _ _ _ _ (by have := HB.out; exact blBy) (HBB.out.kept (by first | exact Below.refl _ _ | exact below_drew1 _ | exact below_drewN _ _))).mono ?_; rintro e w2 ⟨a1, c1, rfl, hn, hbx⟩; replace f0 := cell_below f0 (below_trans (by first | exact Below.refl _ _ | exact below_drew1 _ | exact below_drewN _ _) hbx); replace f1 := cell_below f1 (below_trans (by first | exact Below.refl _ _ | exact below_drew1 _ | exact below_drewN _ _) hbx); replace Br := Br.kept (below_trans (by first | exact Below.refl _ _ | exact below_drew1 _ | exact below_drewN _ _) hbx); replace xr := Br.cellF; replace yr := Br.frz; replace zr := Br.lt; replace HB := hid (below_trans HB.out (below_trans (by first | exact Below.refl _ _ | exact below_drew1 _ | exact below_drewN _ _) hbx)); replace HBB := hid (HBB.out.kept (below_trans (by first | exact Below.refl _ _ | exact below_drew1 _ | exact below_drewN _ _) hbx)); have H1 : Hid (FlsR w2 (w.heap.size + 5 ≤ ·) d (.slice a1 m.fs.length c1) m.fs) := hid (FlsR.go hn (Keep.refl (fun _ => True) w2) (fun _ _ => trivial) (fun k hk => Nat.le_trans HS.out hk)); (try replace H2 := hid (EnsR.kept H2.out (below_trans (by first | exact Below.refl _ _ | exact below_drew1 _ | exact below_drewN _ _) hbx))); replace HS := hid (Nat.le_trans HS.out (Below.size (below_trans (by first | exact Below.refl _ _ | exact below_drew1 _ | exact below_drewN _ _) hbx))); clear hn hbx) | (go_at_call 82; refine (HE.out _ (by have := HB.out; exact blBy)).mono ?_; rintro e w3 ⟨a2, c2, rfl, hn, hbx⟩; replace f0 := cell_below f0 (below_trans (by first | exact Below.refl _ _ | exact below_drew1 _ | exact below_drewN _ _) hbx); replace f1 := cell_below f1 (below_trans (by first | exact Below.refl _ _ | exact below_drew1 _ | exact below_drewN _ _) hbx); replace Br := Br.kept (below_trans (by first | exact Below.refl _ _ | exact below_drew1 _ | exact below_drewN _ _) hbx); replace xr := Br.cellF; replace yr := Br.frz; replace zr := Br.lt; replace HB := hid (below_trans HB.out (below_trans (by first | exact Below.refl _ _ | exact below_drew1 _ | exact below_drewN _ _) hbx)); replace HBB := hid (HBB.out.kept (below_trans (by first | exact Below.refl _ _ | exact below_drew1 _ | exact below_drewN _ _) hbx)); have H2 : Hid (EnsR w3 (w.heap.size + 5 ≤ ·) (.slice a2 m.us.length c2) m.us) := hid (EnsR.go hn (Keep.refl (fun _ => True) w3) (fun _ _ => trivial) (fun k hk => Nat.le_trans HS.out hk)); (try replace H1 := hid (FlsR.kept H1.out (below_trans (by first | exact Below.refl _ _ | exact below_drew1 _ | exact below_drewN _ _) hbx))); replace HS := hid (Nat.le_trans HS.out (Below.size (below_trans (by first | exact Below.refl _ _ | exact below_drew1 _ | exact below_drewN _ _) hbx))); clear hn hbx))
    all_goals go_wp2
    all_goals exact bodyPost_ret (v := .agg #[.slice a1 m.fs.length c1, .slice a2 m.us.length c2]) (by simp [results, Tryz.results62, go_sem, xr, zr, yr]) rfl (NewE.mk [.slice a1 m.fs.length c1, .slice a2 m.us.length c2] ⟨_, _, rfl, FlsR.go H1.out (f := (w.heap.size + 5 ≤ ·)) (by with_reducible repeat (first | exact Keep.refl _ _ | refine kpS ?_ (by first | (simp; done) | (simp; omega) | omega) | refine kpA ?_ _ | refine kpD ?_ | refine kpN ?_ _)) (fun _ h => h) (fun k hk => by omega), EnsR.go H2.out (f := (w.heap.size + 5 ≤ ·)) (by with_reducible repeat (first | exact Keep.refl _ _ | refine kpS ?_ (by first | (simp; done) | (simp; omega) | omega) | refine kpA ?_ _ | refine kpD ?_ | refine kpN ?_ _)) (fun _ h => h) (fun k hk => by omega)⟩ (by have := HB.out; exact blBy))
theorem copyT (d : Nat) (w : World) (Z : Nat → Prop) (cs : List Value) (m : CM) (h : MsgE w Z d cs m) : Calls Tryz.prog 28 #[.agg cs.toArray] w (NewE (FmM d) w m) := by
  have HR := hid (fun W (hW : Below w.heap.size w W) => rebuiltT d W Z cs m (h.kept hW))
  obtain ⟨ka, kc, va, vc, rfl, -⟩ := msg_openD h
  clear h
  go_enter Tryz.func28, Tryz.ntmps28
  go_wp2_with fail
  refine (HR.out _ (by exact blBy)).mono ?_
  rintro e w1 ⟨ds, rfl, hn, hbx⟩
  have Br : Blk w1 (w.heap.size + 1) 35 #[.slice none 0 0, .slice none 0 0] := (Blk.newAt (by simp)).kept hbx
  have HN : Hid (MsgE w1 (w.heap.size + 2 ≤ ·) d ds m) := hid (MsgE.go (Keep.refl (fun _ => True) w1) (fun _ _ => trivial) (fun k hk => by simpa using hk) d _ _ hn)
  have hbz : Hid (Below w.heap.size w w1) := hid (bl_then (by exact blBy) hbx)
  clear hbx hn HR
  obtain ⟨fa, fc, ua, uc, rfl, -⟩ := msg_openD HN.out
  have xr := Br.cellF
  have yr := Br.frz
  have zr := Br.lt
  go_wp2
  exact bodyPost_ret (v := .agg #[.slice fa m.fs.length fc, .slice ua m.us.length uc]) (by simp [results, Tryz.results28, go_sem, xr, zr, yr]) rfl (NewE.mk [.slice fa m.fs.length fc, .slice ua m.us.length uc] (MsgE.go (f := (w.heap.size + 2 ≤ ·)) (by with_reducible repeat (first | exact Keep.refl _ _ | refine kpS ?_ (by first | (simp; done) | (simp; omega) | omega) | refine kpA ?_ _ | refine kpD ?_ | refine kpN ?_ _)) (fun _ h => h) (fun k hk => by omega) d _ _ HN.out) (by have := hbz.out; exact blBy))
end Go.Proofs.YtgephggcgopfgaaGreatDoor
namespace Go.Proofs.YtgephggcgopfgaaGreatDoor
open Go.RowKit
set_option maxRecDepth 1000000
set_option linter.unusedVariables false
set_option linter.unusedSimpArgs false
set_option maxHeartbeats 1000000
theorem idxFld (w : World) (Z : Nat → Prop) (d : Nat) (xs : List (CF CM)) (a : Option Addr) (c : Nat) (h : FlsR w Z d (.slice a xs.length c) xs) (fn : FuncId) (caps : Array Value) (hcf : ∀ (args : Array Value) (W : World), (callFunc fn args).run Tryz.prog W = .ok (.enter fn args) W) (P : CF CM → Bool)
    (hf : ∀ (W : World), Below w.heap.size w W → ∀ (cs : List Value) (x : CF CM), x ∈ xs → FmF d W Z cs x → Calls Tryz.prog fn (#[.agg cs.toArray] ++ caps) W fun e w' => e = .returned (.bool (P x)) ∧ Below W.heap.size W w') : Calls Tryz.prog 53 #[.slice a xs.length c, .func (.func fn) #[] caps] w fun e w' => e = .returned (.int .i64 (fnd P xs 0)) ∧ Below w.heap.size w w' := by
  obtain ⟨_, _, e1, l1⟩ := RowM.sl h
  clear e1
  have m1 : (xs.length : Int) ≤ 9223372036854775807 := by omega
  have H1 := hid h
  have HF := hid hf
  clear h hf
  go_enter Tryz.func53, Tryz.ntmps53
  go_wp2
  go_loopw [8] (fun r wr => ∃ j : Nat, r = .int .i64 j ∧ j ≤ xs.length ∧ Hid (fnd P xs 0 = fnd P (xs.drop j) j) ∧ Hid (Below w.heap.size w wr)) (fun r wr => xs.length - numAt wr r)
  case atStart => exact ⟨0, rfl, by omega, hid rfl, hid (Below.refl _ _)⟩
  case round =>
    obtain ⟨j, rfl, hj, hf, hb⟩ := hrel
    by_cases hlt : j < xs.length
    · have h2 : (j : Int) < (xs.length : Int) := by omega
      obtain ⟨b1, o1, ka1, kc1, va1, vc1, rfl, -, hb1, c0, c1, c2, he⟩ := fls_at (H1.out.kept hb.out) hlt
      have HE := hid he
      have HST := hid (fnd_at (p := P) hlt)
      have HME := hid (List.getElem_mem hlt)
      clear he
      generalize xs[j] = x at *
      go_wp2_with fail
      refine (HF.out _ (by have := hb.out; exact blBy) [.int .i64 x.num, .slice ka1 x.ks.length kc1, .slice va1 x.vs.length vc1] x HME.out (Fam.go (famF d) HE.out (keepT (by exact blBy)) (fun _ _ => trivial) (fun _ h => h))).mono ?_
      rintro e w1 ⟨rfl, hb1⟩
      have HB1 : Hid (Below w.heap.size w w1) := hid (bl_then (by have := hb.out; exact blBy) hb1)
      clear hb1
      cases hq : P x with
      | true =>
        go_wp2
        go_ret
        exact ⟨ret_int (by rw [hf.out, HST.out, hq]; simp), HB1.out⟩
      | false =>
        go_wp2
        exact ⟨⟨j + 1, by simp, by omega, hid (by rw [hf.out, HST.out, hq]; simp), HB1⟩, by simp [numAt]; omega⟩
    · have h2 : ¬ (j : Int) < (xs.length : Int) := by omega
      have HE : Hid (fnd P xs 0 = -1) := hid (by rw [hf.out, List.drop_of_length_le (by omega)]; rfl)
      go_wp2
      go_ret
      exact ⟨ret_int (by rw [HE.out]), hb.out⟩
def isN (n : Int) (x : CF CM) : Bool := decide (x.num = n)
theorem getFn (w : World) (Z : Nat → Prop) (d : Nat) (cs : List Value) (x : CF CM) (h : FmF d w Z cs x) (p : Nat) (n : Int) (hp : Blk w p 3 #[.int .i64 n]) : Calls Tryz.prog 54 #[.agg cs.toArray, .pointer (some ⟨p, 0, none⟩)] w fun e w' => e = .returned (.bool (isN n x)) ∧ Below w.heap.size w w' := by
  obtain ⟨ka, kc, va, vc, rfl, -⟩ := fld_open h
  have xp := hp.cellF
  have zp := hp.lt
  clear h hp
  go_enter Tryz.func54, Tryz.ntmps54
  go_wp2
  go_ret
  exact ⟨ret_bool (by unfold isN; by_cases q : x.num = n <;> simp [q]), by exact blBy⟩
theorem cfGet (args : Array Value) (W : World) : (callFunc 54 args).run Tryz.prog W = .ok (.enter 54 args) W := cf_enter Tryz.func54 (by kernel_rfl) (by kernel_rfl) args W
theorem fieldRun (s u : Value) (W : World) (hs : s.cells = #[s]) : (Instr.field 35 (.agg #[s, u]) 0).run Tryz.prog W = .ok s W := by
  simp [Instr.field, part, asAgg, go_sem]
def cfZ : CF CM := ⟨0, [], []⟩
/-- A field, and whether it is there. -/
def GetR (d : Nat) (w : World) (o : Option (CF CM)) (e : Ending) (w' : World) : Prop := ∃ cs : List Value, e = .returned (.tuple #[.agg cs.toArray, .bool o.isSome]) ∧ FmF d w' (w.heap.size ≤ ·) cs (o.getD cfZ) ∧ Below w.heap.size w w'
theorem getT (d : Nat) (w : World) (Z : Nat → Prop) (cs : List Value) (m : CM) (h : MsgE w Z (d + 1) cs m) (n : Int) : Calls Tryz.prog 24 #[.agg cs.toArray, .int .i64 n] w (GetR d w (m.fs.find? (isN n))) := by
  obtain ⟨ka, kc, va, vc, rfl, g, q, l1, -⟩ := msg_open h
  have HI := hid fun W (hW : Below w.heap.size w W) (p : Nat) (hp : Blk W p 3 #[.int .i64 n]) => idxFld W Z d m.fs ka kc (g.kept hW) 54 #[.pointer (some ⟨p, 0, none⟩)] cfGet (isN n) (fun W' hW' cs x _ hx => getFn W' Z d cs x hx p n (hp.kept hW'))
  have G := hid g
  have LC := RowM.cap g
  have LC1 : (m.fs.length : Int) ≤ (kc : Int) := by omega
  have LC2 : (kc : Int) ≤ 9223372036854775807 := by omega
  clear h g q
  go_enter Tryz.func24, Tryz.ntmps24
  go_wp2_with fail
  refine (HI.out _ (by exact blBy) _ ((Blk.newAt (by simp)).kept (below_alloc _))).mono ?_
  rintro e w1 ⟨rfl, hbx⟩
  have Bx : Blk w1 w.heap.size 35 #[.slice ka m.fs.length kc, .slice va m.us.length vc] := (((Blk.new _ _ _).kept (below_alloc _)).kept (below_alloc _)).kept hbx
  have Br : Blk w1 (w.heap.size + 1 + 1) 29 #[.int .i64 0, .slice none 0 0, .slice none 0 0] := (Blk.newAt (by simp)).kept hbx
  have hbz : Hid (Below w.heap.size w w1) := hid (bl_then (by exact blBy) hbx)
  clear hbx HI
  have xx := Bx.cellF
  have zx := Bx.lt
  have xr := Br.cellF
  have yr := Br.frz
  have zr := Br.lt
  rcases fnd_find (isN n) m.fs 0 with ⟨h1, h2⟩ | ⟨j, hj, h1, h2⟩
  · have H2 := hid h2
    generalize fnd (isN n) m.fs 0 = i at *
    have k0 : (i < 0) = True := eq_true h1
    clear h1 h2
    go_wp2
    exact bodyPost_ret (v := .tuple #[.agg #[.int .i64 0, .slice none 0 0, .slice none 0 0], .bool false]) (by simp [results, Tryz.results24, go_sem, xr, zr, yr]) rfl ⟨[.int .i64 0, .slice none 0 0, .slice none 0 0], by rw [H2.out]; rfl, by rw [H2.out]; exact ⟨_, _, rfl, RowM.nil _ _ _ _, RowM.nil _ _ _ _, by constructor <;> decide⟩, by have := hbz.out; exact blBy⟩
  · have H2 := hid h2
    rw [h1, Nat.zero_add]
    have k0 : ((j : Int) < 0) = False := eq_false (by omega)
    have k1 : (j : Int) < (m.fs.length : Int) := by omega
    have k2 : (j : Int) + 1 ≤ (m.fs.length : Int) := by omega
    clear h1 h2
    obtain ⟨b1, o1, _, _, _, _, rfl, -⟩ := fls_at G.out hj
    have HSB : Hid (∀ W, Below w.heap.size w W → MsgE W Z (d + 1) [.slice (some ⟨b1, o1 + j * 3, none⟩) 1 (kc - j), .slice none 0 0] (CM.mk [m.fs[j]] [])) := hid fun W hW => ⟨_, _, rfl, RowM.sub (G.out.kept hW) (by decide) hj (by omega) (by omega), RowM.nil _ _ _ _⟩
    generalize m.fs[j] = x at *
    go_wp2_with fail
    refine (copyT (d + 1) _ Z [.slice (some ⟨b1, o1 + j * 3, none⟩) 1 (kc - j), .slice none 0 0] (CM.mk [x] []) (HSB.out _ hbz.out)).mono ?_
    rintro e w2 ⟨ds, rfl, hn, hbx⟩
    obtain ⟨fa, fc, ua, uc, rfl, g1, -⟩ := msg_open hn
    obtain ⟨b2, o2, pa, pc, qa, qc, hfa, hz2, hb2, c0, c1, c2, he⟩ := fls_at g1 (i := 0) (by simp [CM.fs])
    subst hfa
    replace Br := Br.kept hbx
    have hne : b2 ≠ w.heap.size + 1 + 1 := by
      have hz3 : w1.heap.size ≤ b2 := hz2
      omega
    have d0 : w2.cell? ⟨b2, o2, none⟩ = some (.int .i64 x.num) := by simpa [CM.fs] using c0
    have d1 : w2.cell? ⟨b2, o2 + 1, none⟩ = some (.slice pa x.ks.length pc) := by simpa [CM.fs] using c1
    have d2 : w2.cell? ⟨b2, o2 + 2, none⟩ = some (.slice qa x.vs.length qc) := by simpa [CM.fs] using c2
    have HN : Hid (FmF d w2 (w.heap.size + 3 ≤ ·) [.int .i64 x.num, .slice pa x.ks.length pc, .slice qa x.vs.length qc] x) := hid ((famF d).go he (Keep.refl (fun _ => True) w2) (fun _ _ => trivial) (fun k hk => by have hk2 : w1.heap.size ≤ k := hk; omega))
    have hby : Hid (Below w.heap.size w w2) := hid (bl_then hbz.out hbx)
    clear c0 c1 c2 he hn g1 hz2 xx zx xr yr zr hbx hbz HSB
    have xr := Br.cellF
    have yr := Br.frz
    have zr := Br.lt
    have ef : (CM.mk [x] []).fs.length = 1 := rfl
    have eu : (CM.mk [x] []).us.length = 0 := rfl
    rw [ef, eu]
    have HFD := fieldRun (.slice (some ⟨b2, o2, none⟩) 1 fc) (.slice ua 0 uc) w2 rfl
    go_wp2
    exact bodyPost_ret (v := .tuple #[.agg #[.int .i64 x.num, .slice pa x.ks.length pc, .slice qa x.vs.length qc], .bool true]) (by simp [results, Tryz.results24, go_sem, xr, zr, yr]) rfl ⟨[.int .i64 x.num, .slice pa x.ks.length pc, .slice qa x.vs.length qc], by rw [H2.out]; rfl, by rw [H2.out]; exact (famF d).go HN.out (f := (w.heap.size + 3 ≤ ·)) (by with_reducible repeat (first | exact Keep.refl _ _ | refine kpS ?_ (by first | (simp; done) | (simp; omega) | omega) | refine kpA ?_ _ | refine kpD ?_ | refine kpN ?_ _)) (fun _ h => h) (fun k hk => by omega), by have := hby.out; exact blBy⟩
end Go.Proofs.YtgephggcgopfgaaGreatDoor
namespace Go.Proofs.YtgephggcgopfgaaGreatDoor
open Go.RowKit
set_option maxRecDepth 1000000
set_option linter.unusedVariables false
set_option linter.unusedSimpArgs false
set_option maxHeartbeats 2000000
/-- The greatest of a list, and of a number. -/
def mxL {α : Type} (f : α → Nat) (a : Nat) (l : List α) : Nat := l.foldl (fun a x => max a (f x)) a
def depVs (dm : CM → Nat) (a : Nat) (l : List (CV CM)) : Nat := l.foldl (fun a v => mxL dm a v.ms) a
/-- How deep, so far down. -/
def depM : Nat → CM → Nat
  | 0, _ => 0
  | d + 1, m => m.fs.foldl (fun a f => max (max a (depVs (depM d) 0 f.ks)) (depVs (depM d) 0 f.vs)) 0 + 1
theorem mxL_le {α : Type} {f : α → Nat} {b : Nat} : ∀ {l : List α} {a : Nat}, a ≤ b → (∀ x ∈ l, f x ≤ b) → mxL f a l ≤ b
  | [], a, ha, _ => ha
  | x :: r, a, ha, h => by
    show mxL f (max a (f x)) r ≤ b
    exact mxL_le (Nat.max_le.2 ⟨ha, h x List.mem_cons_self⟩) (fun y hy => h y (List.mem_cons_of_mem _ hy))
theorem depVs_le {dm : CM → Nat} {b : Nat} (hd : ∀ m, dm m ≤ b) : ∀ {l : List (CV CM)} {a : Nat}, a ≤ b → depVs dm a l ≤ b
  | [], a, ha => ha
  | v :: r, a, ha => by
    show depVs dm (mxL dm a v.ms) r ≤ b
    exact depVs_le hd (mxL_le ha (fun m _ => hd m))
theorem depFs_le {dm : CM → Nat} {b : Nat} (hd : ∀ m, dm m ≤ b) : ∀ {l : List (CF CM)} {a : Nat}, a ≤ b → l.foldl (fun a f => max (max a (depVs dm 0 f.ks)) (depVs dm 0 f.vs)) a ≤ b
  | [], a, ha => ha
  | f :: r, a, ha => by
    rw [List.foldl_cons]
    exact depFs_le hd (Nat.max_le.2 ⟨Nat.max_le.2 ⟨ha, depVs_le hd (Nat.zero_le _)⟩, depVs_le hd (Nat.zero_le _)⟩)
theorem depM_le : ∀ (d : Nat) (m : CM), depM d m ≤ d
  | 0, _ => Nat.le_refl _
  | d + 1, m => by
    unfold depM
    exact Nat.succ_le_succ (depFs_le (depM_le d) (Nat.zero_le _))
end Go.Proofs.YtgephggcgopfgaaGreatDoor
namespace Go.Proofs.YtgephggcgopfgaaGreatDoor.W
open Go.RowKit
set_option maxRecDepth 1000000
/-- Reading: what is left, which byte it is, what is read so far, the place. -/
def gvF : List Int → Nat → Int → Int → Int × Int × Int
  | [], _, _, _ => (0, 0, 3)
  | c :: r, k, X, at0 => if k = 9 ∧ 1 < c then (0, 0, 4) else if c < 128 then (X + c * 2 ^ (7 * k), at0 + k + 1, 0) else gvF r (k + 1) (X + (c - 128) * 2 ^ (7 * k)) at0
def gv (xs : List Int) (at0 : Nat) : Int × Int × Int := gvF (xs.drop at0) 0 0 at0
section
variable {xs : List Int} {p k : Nat} {X : Int}
end
end Go.Proofs.YtgephggcgopfgaaGreatDoor.W
namespace Go.Proofs.YtgephggcgopfgaaGreatDoor.W
open Go.RowKit
set_option maxRecDepth 1000000
def gcF (xs : List Int) (g : Int × Int × Int) : List Int × Int × Int := if g.2.2 ≠ 0 then ([], 0, g.2.2) else if (xs.length : Int) - g.2.1 < g.1 then ([], 0, 3) else ((xs.drop g.2.1.toNat).take g.1.toNat, g.2.1 + g.1, 0)
def gc (xs : List Int) (p : Nat) : List Int × Int × Int := gcF xs (gv xs p)
end Go.Proofs.YtgephggcgopfgaaGreatDoor.W
