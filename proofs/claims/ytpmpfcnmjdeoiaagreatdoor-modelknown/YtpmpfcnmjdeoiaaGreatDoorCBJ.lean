/-
  The messages of a field, one by one, where what is done with them writes.
  How deep a message is, as the walk reckons it.
  How deep a message is: the program's walk.
  What comes in, opened: strings; and what the bound on it says.
  A table that comes in, opened.
  A table that comes in, opened: fields, symbols, ranges, types.
  What stays of a typed message.
-/
import Derived.Test.YtpmpfcnmjdeoiaaGreatDoorCAQ
import Derived.Test.YtpmpfcnmjdeoiaaGreatDoorCBA
import Derived.Test.YtpmpfcnmjdeoiaaGreatDoorCTY
import Derived.ProofKit
import Derived.OpenShut
import Derived.ShutString
import Derived.Lib.SmallJoins
import Derived.Deep.Slices
import Derived.Deep.Fields
import Derived.Test.YtpmpfcnmjdeoiaaGreatDoorCw8G
import Derived.Test.YtpmpfcnmjdeoiaaGreatDoorCAH
namespace Go.Proofs.YtpmpfcnmjdeoiaaGreatDoor
open Go.RowKit Go.Shelf
set_option maxRecDepth 1000000
attribute [local go_sem] Oper.semAt_some
set_option linter.unusedVariables false
set_option linter.unusedSimpArgs false
set_option maxHeartbeats 2000000
theorem kpBl {f : Nat → Prop} {w W W' : World} (h : Keep f w W) (g : Below W.heap.size W W') : Keep f w W' := h.trans (Keep.ofBelow g)
theorem cell_kp {f : Nat → Prop} {w w' : World} {b o : Nat} {v : Value} (h : w.cell? ⟨b, o, none⟩ = some v) (hb : Keep f w w') (hf : f b) : w'.cell? ⟨b, o, none⟩ = some v := by
  have hlt : b < w.heap.size := World.block_lt_of_cell? _ _ h
  have := hb.block b hlt hf
  unfold World.cell? at *
  rw [this]
  exact h
theorem keepK_t {f : Nat → Prop} {A B C : World} (h : Keep f A B) (k : Keep f B C) : Keep f A C := h.trans k
theorem keepK_b {w : World} {p : Nat} (hp : p < w.heap.size) (W : World) (l : Nat) (o o' : Obj) (hl : w.heap.size ≤ l) (h : W.heap[l]? = some o) (h1 : o.isCells = false) (h2 : o.isWalk = false) : Keep (fun k => k < w.heap.size ∧ k ≠ p) W (W.putObj l o') := ⟨rfl, rfl, rfl, by simp [World.putObj], fun k _ hf => by simp [World.putObj, Array.getElem?_setIfInBounds]; omega⟩
theorem msgsOf_inK (f : Nat → Prop) (w : World) (Z : Nat → Prop) (d : Nat) (n : Nat) (hn : 1 ≤ n) (p : Nat) (x : CF CM) (ka va : Option Addr) (kc vc : Nat) (hp : Blk w p 29 #[.int .i64 x.num, .slice ka x.ks.length kc, .slice va x.vs.length vc]) (hZf : ∀ k, Z k → f k) (h1 : VlsR w Z d (.slice ka x.ks.length kc) x.ks) (h2 : VlsR w Z d (.slice va x.vs.length vc) x.vs) :
    SeqStopsK Fence.wide n Tryz.prog 122 #[.pointer (some ⟨p, 0, none⟩)] (encM (w := w) (Z := Z) (d := d) (L := allM x)) (Keep f) (fun xs => xs.map (fun y => y.1.2) = allM x) (fun xs => xs.map (fun y => y.1.2) <+: allM x) (allM x).length w := by
  intro l J Jx W hW hJ hJx hY h0
  have H1 := hid h1
  have H2 := hid h2
  have HJ := hid hJ
  have HY := hid hY
  have HW := hid hW
  have Bp := hp.kept hW
  have xp := Bp.cellF
  have zp := Bp.lt
  clear h1 h2 hp hJ hJx hY hW Bp
  refine callsIn_of_wp Tryz.func122 rfl trivial ?_ rfl
  simp only [Tryz.ntmps122, List.size_toArray, List.length_cons, List.length_nil, Nat.reduceAdd, Nat.reduceSub, Array.replicate_succ, Array.replicate_zero, List.push_toArray, List.append_toArray, List.nil_append, List.cons_append]
  gi_wp2
  gi_loopw [14] (fun s wr => ∃ (i : Nat) (pre : List (XM w Z d (allM x))), s = .int .i64 i ∧ i ≤ 2 ∧ Hid (pre.map (fun y => y.1.2) = (([x.ks, x.vs] : List (List (CV CM))).take i).flatMap (fun l => l.flatMap CV.ms)) ∧ Hid (J pre wr) ∧ Hid (Keep f w wr)) (fun s _ => 2 - (intOf s).toNat)
  case atStart => exact ⟨0, [], rfl, by omega, hid rfl, hid h0, hid (Keep.ofBelow HW.out)⟩
  case round =>
    obtain ⟨i, pre, rfl, hi, HP, HJ0, hb⟩ := hrel
    by_cases hlt : i < 2
    · have k0 : (i : Int) < 2 := by omega
      obtain ⟨xs, la, lc, P0, R0, hidx, HV, HP0, HAL, HNX⟩ : ∃ (xs : List (CV CM)) (la : Option Addr) (lc : Nat) (P0 R0 : List CM), (∀ W, (Instr.index 149 (.agg #[.slice ka x.ks.length kc, .slice va x.vs.length vc]) (.int .i64 (i : Int))).run Tryz.prog W = .ok (.slice la xs.length lc) W) ∧ Hid (VlsR w Z d (.slice la xs.length lc) xs) ∧ Hid (pre.map (fun y => y.1.2) = P0) ∧ Hid (allM x = P0 ++ (xs.flatMap CV.ms ++ R0)) ∧ Hid ((([x.ks, x.vs] : List (List (CV CM))).take (i + 1)).flatMap (fun l => l.flatMap CV.ms) = P0 ++ xs.flatMap CV.ms) := by
        have ei : i = 0 ∨ i = 1 := by omega
        rcases ei with rfl | rfl
        · exact ⟨x.ks, ka, kc, [], x.vs.flatMap CV.ms, fun W => by rfl, H1, hid (by rw [HP.out]; rfl), hid rfl, hid (by simp)⟩
        · exact ⟨x.vs, va, vc, x.ks.flatMap CV.ms, [], fun W => by rfl, H2, hid (by rw [HP.out]; simp), hid (by unfold allM; simp), hid (by simp)⟩
      obtain ⟨_, _, e1, l1⟩ := RowM.sl HV.out
      clear e1
      have m1 : (xs.length : Int) ≤ 9223372036854775807 := by omega
      clear HP
      gi_wp2
      gi_loopw [19] (fun s wr => ∃ (j : Nat) (pre : List (XM w Z d (allM x))), s = .int .i64 j ∧ j ≤ xs.length ∧ Hid (pre.map (fun y => y.1.2) = P0 ++ (xs.take j).flatMap CV.ms) ∧ Hid (J pre wr) ∧ Hid (Keep f w wr)) (fun s _ => xs.length - (intOf s).toNat)
      case atStart => exact ⟨0, pre, rfl, by omega, hid (by rw [HP0.out]; simp), HJ0, hb⟩
      case round =>
        clear HJ0 hb
        obtain ⟨j, pre, rfl, hj, HP, HJ0, hb⟩ := hrel
        by_cases hjl : j < xs.length
        · have k1 : (j : Int) < (xs.length : Int) := by omega
          obtain ⟨b1, o1, ba1, bc1, ma1, mc1, rfl, hz1, hb1, c0, c1, c2, he⟩ := vls_at HV.out hjl
          obtain ⟨_, _, _, _, e1, -, q1, -, ml1, -⟩ := val_open he
          simp only [List.cons.injEq, Value.slice.injEq, true_and, and_true] at e1
          obtain ⟨⟨rfl, rfl⟩, rfl, rfl⟩ := e1
          have Q := hid q1
          have HSP := hid (fun k (hk : k < xs[j].ms.length) => flat_split hjl hk)
          have HNJ := hid (flat_next hjl)
          replace c0 := cell_kp c0 hb.out (hZf _ hz1)
          replace c1 := cell_kp c1 hb.out (hZf _ hz1)
          replace c2 := cell_kp c2 hb.out (hZf _ hz1)
          replace hb1 : b1 < wr.heap.size := World.block_lt_of_cell? _ _ c0
          clear he q1
          generalize xs[j] = v at *
          have ml3 : (v.ms.length : Int) ≤ 9223372036854775807 := by omega
          gi_wp2
          gi_loopw [26] (fun s wr => ∃ (k : Nat) (pre : List (XM w Z d (allM x))), s = .int .i64 k ∧ k ≤ v.ms.length ∧ Hid (pre.map (fun y => y.1.2) = P0 ++ ((xs.take j).flatMap CV.ms ++ v.ms.take k)) ∧ Hid (J pre wr) ∧ Hid (Keep f w wr)) (fun s _ => v.ms.length - (intOf s).toNat)
          case atStart => exact ⟨0, pre, rfl, by omega, hid (by rw [HP.out]; simp), hid (abide_alloc HJ.out HJ0.out _), hid (kpBl hb.out (by exact blBy))⟩
          case round =>
            clear HJ0 hb HP c0 c1 c2 hb1
            obtain ⟨k, pre, rfl, hk, HP, HJ0, hb⟩ := hrel
            by_cases hkl : k < v.ms.length
            · have k2 : (k : Int) < (v.ms.length : Int) := by omega
              obtain ⟨p1, r1, fa1, fc1, ua1, uc1, rfl, hz2, hp1, m10, m11, hm1⟩ := mgs_at' Q.out hkl
              have HSK := hid (HSP.out k hkl)
              have HTK : Hid (v.ms.take (k + 1) = v.ms.take k ++ [v.ms[k]]) := hid (List.take_succ_eq_append_getElem hkl)
              replace m10 := cell_kp m10 hb.out (hZf _ hz2)
              replace m11 := cell_kp m11 hb.out (hZf _ hz2)
              replace hp1 : p1 < wr.heap.size := World.block_lt_of_cell? _ _ m10
              generalize v.ms[k] = m at *
              have HLN : pre.length < (allM x).length := by
                have e1 : pre.length = (P0 ++ ((xs.take j).flatMap CV.ms ++ v.ms.take k)).length := by rw [← HP.out, List.length_map]
                rw [e1, HAL.out, HSK.out]
                simp only [List.length_append, List.length_cons]
                omega
              have HPX : Hid (P0 ++ ((xs.take j).flatMap CV.ms ++ v.ms.take (k + 1)) <+: allM x) := hid (by
                rw [HAL.out, HSK.out, HTK.out]
                exact ⟨v.ms.drop (k + 1) ++ (xs.drop (j + 1)).flatMap CV.ms ++ R0, by simp only [List.append_assoc, List.cons_append, List.nil_append]⟩)
              have HME : Hid (MsgE w Z d [.slice fa1 m.fs.length fc1, .slice ua1 m.us.length uc1] m) := hid hm1
              have HIN : Hid (m ∈ allM x) := hid (by rw [HAL.out, HSK.out]; simp)
              clear hm1
              obtain ⟨fn, tmps, assign, body, hy, hR⟩ := HY.out pre ⟨([.slice fa1 m.fs.length fc1, .slice ua1 m.us.length uc1], m), HME.out, HIN.out⟩ (wr.alloc (.cells #[.slice fa1 m.fs.length fc1, .slice ua1 m.us.length uc1] 35)) (abide_alloc HJ.out HJ0.out _) HLN
              dsimp only [encM] at hy
              have HR := hid hR
              clear hR HLN
              gi_wp2
              refine HR.out.mono ?_
              rintro e W3 (⟨rfl, hJ3, hk3⟩ | ⟨rfl, hJx3⟩)
              · have hb3 : Hid (Keep f w W3) := hid ((kpBl hb.out (by exact blBy)).trans hk3)
                have HJ3 := hid hJ3
                clear hJ3 hk3 hy m10 m11 hp1
                gi_wp2
                exact ⟨⟨k + 1, _, by simp, by omega, hid (by rw [List.map_append, HP.out, HTK.out]; simp), HJ3, hb3⟩, by simp [intOf]; omega⟩
              · have HJ3 := hid hJx3
                clear hJx3 hy m10 m11 hp1
                gi_wp2
                refine bodyPost_ret (results_none rfl _ _ _) rfl ?_
                exact ⟨⟨_, rfl⟩, .inr ⟨_, by rw [List.map_append, HP.out]; have := HPX.out; rw [HTK.out] at this; simpa using this, HJ3.out⟩⟩
            · have k2 : ¬ (k : Int) < (v.ms.length : Int) := by omega
              have e1 : v.ms.take k = v.ms := List.take_of_length_le (by omega)
              rw [e1] at HP
              clear e1
              gi_wp2
              exact ⟨⟨j + 1, pre, by simp, by omega, hid (by rw [HP.out, HNJ.out]), HJ0, hb⟩, by simp [intOf]; omega⟩
        · have k1 : ¬ (j : Int) < (xs.length : Int) := by omega
          have e1 : xs.take j = xs := List.take_of_length_le (by omega)
          rw [e1] at HP
          clear e1
          gi_wp2
          exact ⟨⟨i + 1, pre, by simp, by omega, hid (by rw [HP.out, HNX.out]), HJ0, hb⟩, by simp [intOf]; omega⟩
    · have k0 : ¬ (i : Int) < 2 := by omega
      have ei : i = 2 := by omega
      rw [ei] at HP
      clear ei
      gi_wp2
      go_end0
      exact ⟨⟨_, rfl⟩, .inl ⟨pre, by rw [HP.out]; unfold allM; simp, HJ0.out⟩⟩
end Go.Proofs.YtpmpfcnmjdeoiaaGreatDoor
namespace Go.Proofs.YtpmpfcnmjdeoiaaGreatDoor
set_option linter.unusedVariables false
set_option linter.unusedSimpArgs false
/-- The greatest depth so far, behind a message at the depth k. -/
def dpW : Nat → Nat → Nat → CM → Nat
  | 0, _, g, _ => g
  | d + 1, k, g, m => m.fs.foldl (fun a f => (allM f).foldl (fun a z => dpW d (k + 1) a z) a) (max g k)
theorem mxL_cons {α : Type} (f : α → Nat) (a : Nat) (x : α) (l : List α) : mxL f a (x :: l) = mxL f (max a (f x)) l := rfl
theorem mxL_app {α : Type} (f : α → Nat) (a : Nat) (l r : List α) : mxL f a (l ++ r) = mxL f (mxL f a l) r := by
  unfold mxL
  exact List.foldl_append
theorem mxL_base {α : Type} (f : α → Nat) : ∀ (l : List α) (a : Nat), mxL f a l = max a (mxL f 0 l)
  | [], a => by simp [mxL]
  | x :: l, a => by
    rw [mxL_cons, mxL_cons, mxL_base f l (max a (f x)), mxL_base f l (max 0 (f x))]
    omega
theorem depVs_mx (dm : CM → Nat) : ∀ (l : List (CV CM)) (a : Nat), depVs dm a l = mxL dm a (l.flatMap CV.ms)
  | [], a => rfl
  | v :: r, a => by
    rw [List.flatMap_cons, mxL_app]
    exact depVs_mx dm r (mxL dm a v.ms)
theorem depF_mx (dm : CM → Nat) (a : Nat) (f : CF CM) : max (max a (depVs dm 0 f.ks)) (depVs dm 0 f.vs) = mxL dm a (allM f) := by
  unfold allM
  rw [mxL_app, depVs_mx, depVs_mx, mxL_base dm _ (mxL dm a _), mxL_base dm _ a]
theorem depFs_mx (dm : CM → Nat) : ∀ (l : List (CF CM)) (a : Nat), l.foldl (fun a f => max (max a (depVs dm 0 f.ks)) (depVs dm 0 f.vs)) a = mxL dm a (l.flatMap allM)
  | [], a => rfl
  | f :: r, a => by
    rw [List.foldl_cons, List.flatMap_cons, mxL_app, depF_mx]
    exact depFs_mx dm r _
theorem depM_succ (d : Nat) (m : CM) : depM (d + 1) m = mxL (depM d) 0 (m.fs.flatMap allM) + 1 := by
  rw [← depFs_mx]
  rfl
theorem mxL_ge {α : Type} (f : α → Nat) (l : List α) (a : Nat) : a ≤ mxL f a l := by rw [mxL_base]; exact Nat.le_max_left _ _
theorem fold_mx {F : Nat → CM → Nat} {G : CM → Nat} {c : Nat} (h : ∀ a z, c ≤ a → F a z = max a (G z)) : ∀ (l : List CM) (a : Nat), c ≤ a → l.foldl F a = mxL G a l
  | [], a, _ => rfl
  | z :: l, a, ha => by
    rw [List.foldl_cons, mxL_cons, h a z ha]
    exact fold_mx h l _ (Nat.le_trans ha (Nat.le_max_left _ _))
theorem foldF_mx {F : Nat → CM → Nat} {G : CM → Nat} {c : Nat} (h : ∀ a z, c ≤ a → F a z = max a (G z)) : ∀ (l : List (CF CM)) (a : Nat), c ≤ a → l.foldl (fun a f => (allM f).foldl F a) a = mxL G a (l.flatMap allM)
  | [], a, _ => rfl
  | f :: l, a, ha => by
    rw [List.foldl_cons, List.flatMap_cons, mxL_app, fold_mx h _ _ ha]
    exact foldF_mx h l _ (Nat.le_trans ha (mxL_ge _ _ _))
theorem mxL_add (G : CM → Nat) (k : Nat) : ∀ (l : List CM) (a : Nat), k ≤ a → mxL (fun z => k + G z) a l = max a (k + mxL G 0 l)
  | [], a, ha => by
    show a = max a (k + 0)
    omega
  | z :: l, a, ha => by
    rw [mxL_cons, mxL_cons, mxL_add G k l _ (by omega), mxL_base G l (max 0 (G z))]
    omega
theorem dpW_eq : ∀ (d k g : Nat) (m : CM), k ≤ g → dpW d (k + 1) g m = max g (k + depM d m)
  | 0, k, g, m, h => by
    show g = max g (k + 0)
    omega
  | d + 1, k, g, m, h => by
    rw [depM_succ]
    show m.fs.foldl (fun a f => (allM f).foldl (fun a z => dpW d (k + 1 + 1) a z) a) (max g (k + 1)) = _
    rw [foldF_mx (c := k + 1) (G := fun z => (k + 1) + depM d z) (fun a z ha => dpW_eq d (k + 1) a z ha) _ _ (by omega), mxL_add _ _ _ _ (by omega)]
    omega
theorem dpW_le (d k g B : Nat) (m : CM) (h1 : k ≤ g) (h2 : g ≤ B) (h3 : k + d ≤ B) : dpW d (k + 1) g m ≤ B := by
  rw [dpW_eq d k g m h1]
  have := depM_le d m
  omega
theorem dpW_ge (d k g : Nat) (m : CM) (h1 : k ≤ g) : g ≤ dpW d (k + 1) g m := by
  rw [dpW_eq d k g m h1]
  exact Nat.le_max_left _ _
theorem dpL_le (d k B : Nat) : ∀ (l : List CM) (g : Nat), k ≤ g → g ≤ B → k + d ≤ B → l.foldl (fun a z => dpW d (k + 1) a z) g ≤ B ∧ g ≤ l.foldl (fun a z => dpW d (k + 1) a z) g
  | [], g, _, h2, _ => ⟨h2, Nat.le_refl _⟩
  | z :: l, g, h1, h2, h3 => by
    rw [List.foldl_cons]
    obtain ⟨a, b⟩ := dpL_le d k B l _ (Nat.le_trans h1 (dpW_ge d k g z h1)) (dpW_le d k g B z h1 h2 h3) h3
    exact ⟨a, Nat.le_trans (dpW_ge d k g z h1) b⟩
theorem depth_of (d : Nat) (m : CM) : dpW d 1 0 m = depM d m := by
  rw [dpW_eq d 0 0 m (Nat.le_refl _)]
  omega
end Go.Proofs.YtpmpfcnmjdeoiaaGreatDoor
namespace Go.Proofs.YtpmpfcnmjdeoiaaGreatDoor
open Go.RowKit Go.Shelf
set_option maxRecDepth 1000000
attribute [local go_sem] Oper.semAt_some
set_option linter.unusedVariables false
set_option linter.unusedSimpArgs false
set_option maxHeartbeats 2000000
theorem kpThen {f : Nat → Prop} {w W W' : World} (h : Keep f w W) (g : Below w.heap.size W W') : Keep f w W' := ⟨g.os.trans h.os, g.tape.trans h.tape, g.output.trans h.output, Nat.le_trans h.size g.size, fun k hk hf => (g.block k hk).trans (h.block k hk hf)⟩
theorem kpFirst {f : Nat → Prop} {w W W' : World} (h : Below w.heap.size w W) (g : Keep f W W') : Keep f w W' := (Keep.ofBelow h).trans g
theorem seeT (w : World) (pd : Nat) (g k : Nat) (hp : Blk w pd 3 #[.int .i64 (g : Int)]) (Z : Nat → Prop) (d : Nat) (cs : List Value) (m : CM) (hm : MsgE w Z d cs m) : Calls Tryz.prog 40 #[.int .i64 ((k : Int) + 1), .agg cs.toArray, .pointer (some ⟨pd, 0, none⟩)] w fun e w' => e = .returned (.bool true) ∧ Keep (· ≠ pd) w w' ∧ Blk w' pd 3 #[.int .i64 ((max g (k + 1) : Nat) : Int)] := by
  obtain ⟨ka, kc, va, vc, rfl, -⟩ := msg_openD hm
  have xp := hp.cellF
  have yp := hp.frz
  have zp := hp.lt
  have HP := hid hp
  clear hm hp
  have e1 : ((max g (k + 1) : Nat) : Int) = max (g : Int) ((k : Int) + 1) := by omega
  rw [e1]
  go_enter Tryz.func40, Tryz.ntmps40
  go_wp2
  go_ret
  exact ⟨rfl, kpBl (Keep.setCell (f := (· ≠ pd)) w ⟨pd, 0, none⟩ _ (by simp)) (below_alloc _), ((HP.out.set 0 _).is (by simp)).kept (below_alloc _)⟩
theorem blwDT (w : World) (k : Int) (hk0 : 0 ≤ k) (hk : k ≤ 8000001) (Z : Nat → Prop) (d : Nat) (cs : List Value) (f : CF CM) (hf : FldE w Z (MsgE w Z d) cs f) : Calls Tryz.prog 42 #[.int .i64 k, .agg cs.toArray] w fun e w' => e = .returned (.int .i64 (k + 1)) ∧ Below w.heap.size w w' := by
  obtain ⟨ka, kc, va, vc, rfl, -⟩ := fld_open hf
  clear hf
  have hw : IntKind.i64.wrap (k + 1) = k + 1 := by rw [IntKind.wrap_i64]; omega
  go_enter Tryz.func42, Tryz.ntmps42
  go_wp2
  go_ret
  exact ⟨by first | rfl | simp, by exact blBy⟩
theorem cfSee (args : Array Value) (W : World) : (callFunc 40 args).run Tryz.prog W = .ok (.enter 40 args) W := cf_enter Tryz.func40 (by kernel_rfl) (by kernel_rfl) args W
theorem cfBlwD (args : Array Value) (W : World) : (callFunc 42 args).run Tryz.prog W = .ok (.enter 42 args) W := cf_enter Tryz.func42 (by kernel_rfl) (by kernel_rfl) args W
theorem own_keepD {β : Type} {w3 : World} {p : Nat} {t : TypeId} (g : β → Array Value) (hp : p < w3.heap.size) : OwnFrom w3.heap.size (fun (s : β) W => Keep (· ≠ p) w3 W ∧ Blk W p t (g s)) := fun s A B row hs hg hr =>
  ⟨⟨hg.os.trans hs.1.os, hg.tape.trans hs.1.tape, hg.output.trans hs.1.output, Nat.le_trans hs.1.size hg.size, fun k hk hf => (hg.block k (Nat.lt_of_lt_of_le hk hs.1.size) (fun e => by have := (hr k e.symm).1; omega)).trans (hs.1.block k hk hf)⟩, blk_own hs.2 hg (fun r e => (hr r e).2)⟩
/-- What the walk leaves in the box of the greatest depth. -/
def DwAt (pd d : Nat) : Prop := ∀ (Z : Nat → Prop) (w : World) (k g : Nat) (cs : List Value) (m : CM), (∀ b, Z b → b ≠ pd) → Blk w pd 3 #[.int .i64 (g : Int)] → k ≤ g → g ≤ 8000000 → k + d ≤ 8000000 → MsgE w Z d cs m → Calls Tryz.prog 41 #[.int .i64 ((k : Int) + 1), .agg cs.toArray, .func (.func 40) #[] #[.pointer (some ⟨pd, 0, none⟩)], .func (.func 42) #[] #[]] w fun e w' => e = .returned (.bool true) ∧ Keep (· ≠ pd) w w' ∧ Blk w' pd 3 #[.int .i64 ((dpW d (k + 1) g m : Nat) : Int)]
theorem walkD (pd : Nat) : ∀ d, DwAt pd d
  | 0 => fun _ _ _ _ _ _ _ _ _ _ _ h => h.elim
  | d + 1 => fun Z w k g cs m hZ hp hkg hg hkd h => by
    have IH := hid (walkD pd d)
    obtain ⟨ka, kc, va, vc, rfl, fg, fq, l1, -⟩ := msg_open h
    have HH := hid (fun W (hW : Below w.heap.size w W) => seeT W pd g k (hp.kept hW) Z (d + 1) _ m (h.kept hW))
    have hcf1 := cfSee
    have hcf2 := cfBlwD
    have G := hid fg
    have m1 : (m.fs.length : Int) ≤ 9223372036854775807 := by omega
    have hpd := hp.lt
    have HX : Hid (dpW (d + 1) (k + 1) g m = m.fs.foldl (fun a f => (allM f).foldl (fun a z => dpW d (k + 1 + 1) a z) a) (max g (k + 1))) := hid rfl
    generalize dpW (d + 1) (k + 1) g m = res at *
    clear h fg fq hp
    refine callsIn_wide (n := 3) |>.1 ?_
    refine callsIn_of_wp_marks Tryz.func41 rfl trivial ?_ rfl
    simp only [Tryz.ntmps41, List.size_toArray, List.length_cons, List.length_nil, Nat.reduceAdd, Nat.reduceSub, Array.replicate_succ, Array.replicate_zero, List.push_toArray, List.append_toArray, List.nil_append, List.cons_append]
    gi_wp2_with fail
    refine ⟨trivial, (callsIn_wide.2 (HH.out _ (by exact blBy))).mono ?_⟩
    rintro e w1 ⟨rfl, hbx, Bd⟩
    have B5 : Blk w1 (w.heap.size) 35 #[.slice ka m.fs.length kc, .slice va m.us.length vc] := ((((Blk.new _ _ _).kept (below_alloc _)).kept (below_alloc _)).kept (below_alloc _)).keep hbx (show w.heap.size ≠ pd by omega)
    have B6 : Blk w1 (w.heap.size + 1) 83 #[.func (.func 40) #[] #[.pointer (some ⟨pd, 0, none⟩)]] := (((Blk.newAt (by simp)).kept (below_alloc _)).kept (below_alloc _)).keep hbx (show w.heap.size + 1 ≠ pd by omega)
    have B7 : Blk w1 (w.heap.size + 1 + 1) 85 #[.func (.func 42) #[] #[]] := ((Blk.newAt (by simp)).kept (below_alloc _)).keep hbx (show w.heap.size + 1 + 1 ≠ pd by omega)
    have B8 : Blk w1 (w.heap.size + 1 + 1 + 1) 4 #[.bool false] := (Blk.newAt (by simp)).keep hbx (show w.heap.size + 1 + 1 + 1 ≠ pd by omega)
    have hbz : Hid (Keep (· ≠ pd) w w1) := hid (kpFirst (by exact blBy) hbx)
    have hs1 : w.heap.size + 4 ≤ w1.heap.size := by have := hbx.size; simpa using this
    clear hbx HH
    have x8 := B8.cellF
    have y8 := B8.frz
    have z8 := B8.lt
    have x5 := B5.cellF
    have z5 := B5.lt
    have HBd := hid Bd
    clear Bd
    gi_wp2
    refine wpIn_loop (fun a W => ∃ (j : Nat) (gj : Nat) (Ds : List Nat) (u10 u11 u12 u22 u23 u24 u25 u26 u27 u28 u29 u30 u31 u32 u33 u34 u35 u36 u37 u38 : Value), a = { tmps := #[.int .i64 ((k : Int) + 1), .agg #[.slice ka m.fs.length kc, .slice va m.us.length vc], .func (.func 40) #[] #[.pointer (some ⟨pd, 0, none⟩)], .func (.func 42) #[] #[], undef, .pointer (some ⟨w.heap.size, 0, none⟩), .pointer (some ⟨w.heap.size + 1, 0, none⟩), .pointer (some ⟨w.heap.size + 1 + 1, 0, none⟩), .pointer (some ⟨w.heap.size + 1 + 1 + 1, 0, none⟩), undef, u10, u11, u12, .func (.func 40) #[] #[.pointer (some ⟨pd, 0, none⟩)], .int .i64 ((k : Int) + 1), .agg #[.slice ka m.fs.length kc, .slice va m.us.length vc], .bool true, .bool false, .pointer (some ⟨w.heap.size, 0, none⟩), .slice ka m.fs.length kc, .int .i64 (m.fs.length : Int), .int .i64 (j : Int), u22, u23, u24, u25, u26, u27, u28, u29, u30, u31, u32, u33, u34, u35, u36, u37, u38], defers := Ds.map mkD } ∧ j ≤ m.fs.length ∧ Hid (res = (m.fs.drop j).foldl (fun a f => (allM f).foldl (fun a z => dpW d (k + 1 + 1) a z) a) gj) ∧ Hid (k + 1 ≤ gj ∧ gj ≤ 8000000) ∧ Hid (Blk W pd 3 #[.int .i64 (gj : Int)]) ∧ Hid (Coll W w1.heap.size Ds) ∧ Hid (Keep (· ≠ pd) w1 W)) (fun a _ => m.fs.length - (intOf (a.tmps.getD 21 undef)).toNat) ⟨0, max g (k + 1), [], undef, undef, undef, undef, undef, undef, undef, undef, undef, undef, undef, undef, undef, undef, undef, undef, undef, undef, undef, undef, rfl, by omega, HX, hid ⟨by omega, by omega⟩, HBd, hid (Coll.nil _ _), hid (Keep.refl _ _)⟩ ?_
    rintro a W ⟨j, gj, Ds, u10, u11, u12, u22, u23, u24, u25, u26, u27, u28, u29, u30, u31, u32, u33, u34, u35, u36, u37, u38, rfl, hj, HA, HGJ, HBJ, HC, hb⟩
    have B6' := B6.keep hb.out (show w.heap.size + 1 ≠ pd by omega)
    have B7' := B7.keep hb.out (show w.heap.size + 1 + 1 ≠ pd by omega)
    have B8' := B8.keep hb.out (show w.heap.size + 1 + 1 + 1 ≠ pd by omega)
    have x6 := B6'.cellF
    have z6 := B6'.lt
    have x7 := B7'.cellF
    have z7 := B7'.lt
    clear x5 z5 x8 y8 z8
    by_cases hlt : j < m.fs.length
    · have k2 : (j : Int) < (m.fs.length : Int) := by omega
      obtain ⟨b1, o1, pa, pc, qa, qc, rfl, -, hb1, c0, c1, c2, he⟩ := fls_at (FlsR.go G.out (hbz.out.trans hb.out) hZ (fun _ h => h)) hlt
      have HD : Hid ((m.fs.drop j).foldl (fun a f => (allM f).foldl (fun a z => dpW d (k + 1 + 1) a z) a) gj = (m.fs.drop (j + 1)).foldl (fun a f => (allM f).foldl (fun a z => dpW d (k + 1 + 1) a z) a) ((allM m.fs[j]).foldl (fun a z => dpW d (k + 1 + 1) a z) gj)) := hid (by rw [List.drop_eq_getElem_cons hlt, List.foldl_cons])
      have HFE := hid he
      clear he
      generalize m.fs[j] = f at *
      gi_wp2_with fail
      refine ⟨trivial, (callsIn_wide.2 (blwDT _ ((k : Int) + 1) (by omega) (by omega) Z d _ f (HFE.out.kept (by exact blBy)))).mono ?_⟩
      rintro e w2 ⟨rfl, hbx⟩
      have B10 : Blk w2 W.heap.size 29 #[.int .i64 f.num, .slice pa f.ks.length pc, .slice qa f.vs.length qc] := (Blk.new _ _ _).kept hbx
      have hb2 : Hid (Below W.heap.size W w2) := hid (below_trans (below_alloc _) hbx)
      clear hbx
      have x10 := B10.cellF
      have z10 := B10.lt
      gi_wp2_with fail
      refine ⟨trivial, (callsIn_wide.2 (msgsOfT _ f pa qa pc qc)).mono ?_⟩
      rintro e w3 ⟨rfl, hw3⟩
      have B11 : Blk w3 w2.heap.size 3 #[.int .i64 ((k : Int) + 1 + 1)] := by rw [hw3]; exact (Blk.new _ _ _).kept (below_alloc _)
      have Bq : Blk w3 (w2.heap.size + 1) 29 #[.int .i64 f.num, .slice pa f.ks.length pc, .slice qa f.vs.length qc] := by rw [hw3]; exact Blk.newAt (by simp)
      have hb3 : Hid (Below W.heap.size W w3) := hid (by rw [hw3]; have := hb2.out; exact blBy)
      have hsq : w2.heap.size + 2 ≤ w3.heap.size := by rw [hw3]; simp
      have esq : (w2.alloc (.cells #[.int .i64 ((k : Int) + 1 + 1)] 3)).heap.size = w2.heap.size + 1 := by simp
      rw [esq]
      clear hw3 esq x10 z10 B10 c0 c1 c2 hb1 x6 z6 x7 z7
      have hFX := FldE.old' (HFE.out.kept hb3.out) (fun cs z hz => MsgE.old d cs z hz)
      obtain ⟨_, _, _, _, ef, g1, g2, -⟩ := fld_open hFX
      simp only [List.cons.injEq, Value.slice.injEq, true_and, and_true] at ef
      obtain ⟨⟨rfl, rfl⟩, rfl, rfl⟩ := ef
      have B6q := B6'.kept hb3.out
      have B7q := B7'.kept hb3.out
      have B8q := B8'.kept hb3.out
      have BDq := hid (HBJ.out.kept hb3.out)
      have hbq : Hid (Keep (· ≠ pd) w w3) := hid (kpBl (hbz.out.trans hb.out) hb3.out)
      have hbq1 : Hid (Keep (· ≠ pd) w1 w3) := hid (kpBl hb.out hb3.out)
      have HCq := hid (HC.out.kept hb3.out)
      have hs2 : W.heap.size ≤ w2.heap.size := hb2.out.size
      have hsW := hb.out.size
      have hG1 := HGJ.out.1
      have hG2 := HGJ.out.2
      have hpd3 : pd < w3.heap.size := by omega
      clear B6' B7' B8' hb2 HFE hFX
      gi_wp2_with fail
      refine wpIn_rangeFunc_ownH rfl (by omega) (gf := 122) (lb := #[.pointer (some ⟨w2.heap.size + 1, 0, none⟩)]) rfl trivial cfIter (msgsOf_inK (fun b => b < w3.heap.size ∧ b ≠ pd) w3 (fun b => Z b ∧ b < w3.heap.size) d (3 - 1) (by omega) (w2.heap.size + 1) f pa qa pc qc Bq (fun b hb => ⟨hb.2, hZ b hb.1⟩) g1 g2) keepK_t (keepK_b hpd3) (Below.refl _ _) (fun _ => rfl)
        (fun pre W' => Keep (· ≠ pd) w3 W' ∧ Blk W' pd 3 #[.int .i64 (((pre.map (fun z => z.1.2)).foldl (fun a z => dpW d (k + 1 + 1) a z) gj : Nat) : Int)])
        (fun c pre W' => False)
        (own_keepD (fun (pre : List (XM w3 (fun b => Z b ∧ b < w3.heap.size) d (allM f))) => #[.int .i64 (((pre.map (fun z => z.1.2)).foldl (fun a z => dpW d (k + 1 + 1) a z) gj : Nat) : Int)]) hpd3)
        (fun c => ownFrom_pure _ _)
        ⟨Keep.refl _ _, BDq.out⟩
        (fun z a' W' => ∃ Bx, w3.heap.size ≤ Bx ∧ Blk W' Bx 35 z.1.1.toArray ∧ a' = { tmps := #[.int .i64 ((k : Int) + 1), .agg #[.slice (some ⟨b1, o1, none⟩) m.fs.length kc, .slice va m.us.length vc], .func (.func 40) #[] #[.pointer (some ⟨pd, 0, none⟩)], .func (.func 42) #[] #[], undef, .pointer (some ⟨w.heap.size, 0, none⟩), .pointer (some ⟨w.heap.size + 1, 0, none⟩), .pointer (some ⟨w.heap.size + 1 + 1, 0, none⟩), .pointer (some ⟨w.heap.size + 1 + 1 + 1, 0, none⟩), undef, .pointer (some ⟨W.heap.size, 0, none⟩), .pointer (some ⟨w2.heap.size, 0, none⟩), .pointer (some ⟨Bx, 0, none⟩), .func (.func 40) #[] #[.pointer (some ⟨pd, 0, none⟩)], .int .i64 ((k : Int) + 1), .agg #[.slice (some ⟨b1, o1, none⟩) m.fs.length kc, .slice va m.us.length vc], .bool true, .bool false, .pointer (some ⟨w.heap.size, 0, none⟩), .slice (some ⟨b1, o1, none⟩) m.fs.length kc, .int .i64 (m.fs.length : Int), .int .i64 (j : Int), .bool true, .pointer (some ⟨b1, o1 + j * 3, none⟩), .agg #[.int .i64 f.num, .slice pa f.ks.length pc, .slice qa f.vs.length qc], .func (.func 42) #[] #[], .int .i64 ((k : Int) + 1), .agg #[.int .i64 f.num, .slice pa f.ks.length pc, .slice qa f.vs.length qc], .int .i64 ((k : Int) + 1 + 1), .agg #[.int .i64 f.num, .slice pa f.ks.length pc, .slice qa f.vs.length qc], .func (.func 122) #[] #[.pointer (some ⟨w2.heap.size + 1, 0, none⟩)], .agg z.1.1.toArray, u32, u33, u34, u35, u36, u37, u38], defers := [] })
        (fun z a' _ X Y row hs hg hr => by obtain ⟨Bx, h1, h2, h3⟩ := hs; exact ⟨Bx, h1, blk_own h2 hg (fun r e => (hr r e).2), h3⟩)
        ?assign ?body ?done ?stop
      case assign =>
        rintro l pre z W' K ⟨hK1, hBd⟩ hK
        obtain ⟨⟨zc, zm⟩, hz⟩ := z
        have hz' : MsgE w3 (fun b => Z b ∧ b < w3.heap.size) d zc zm := hz.1
        obtain ⟨fa, fc, ua, uc, e0, -⟩ := msg_openD hz'
        subst e0
        dsimp only [encM] at hK ⊢
        gi_wp2
        exact hK _ _ ((KeepsOthers.alloc _ _).from _) (Keep.ofBelow (below_alloc _)) ⟨kpBl hK1 (below_alloc _), hBd.kept (below_alloc _)⟩ ⟨W'.heap.size, hK1.size, Blk.new _ _ _, rfl⟩
      case body =>
        rintro l pre z a' W' hl ⟨r, hr⟩ ⟨hK1, hBd⟩ ⟨Bx, hBx, bX, rfl⟩ hlt2
        obtain ⟨⟨zc, zm⟩, hz⟩ := z
        have hz' : MsgE w3 (fun b => Z b ∧ b < w3.heap.size) d zc zm := hz.1
        have HZ := hid hz'
        obtain ⟨fa, fc, ua, uc, e0, -⟩ := msg_openD hz'
        subst e0
        dsimp only at bX
        have C6 := B6q.keep hK1 (show w.heap.size + 1 ≠ pd by omega)
        have C7 := B7q.keep hK1 (show w.heap.size + 1 + 1 ≠ pd by omega)
        have C11 := B11.keep hK1 (show w2.heap.size ≠ pd by omega)
        have x6 := C6.cellF
        have z6 := C6.lt
        have x7 := C7.cellF
        have z7 := C7.lt
        have x11 := C11.cellF
        have z11 := C11.lt
        have xX := bX.cellF
        have zX := bX.lt
        have HPL := hid (dpL_le d (k + 1) 8000000 (pre.map (fun z => z.1.2)) gj hG1 hG2 (by omega))
        have HFO : Hid (((pre ++ [(⟨([.slice fa zm.fs.length fc, .slice ua zm.us.length uc], zm), hz⟩ : XM w3 (fun b => Z b ∧ b < w3.heap.size) d (allM f))]).map (fun z => z.1.2)).foldl (fun a z => dpW d (k + 1 + 1) a z) gj = dpW d (k + 1 + 1) ((pre.map (fun z => z.1.2)).foldl (fun a z => dpW d (k + 1 + 1) a z) gj) zm) := hid (by rw [List.map_append, List.foldl_append]; rfl)
        generalize (pre.map (fun z => z.1.2)).foldl (fun a z => dpW d (k + 1 + 1) a z) gj = cur at *
        have HIW := hid (IH.out (fun b => Z b ∧ b < w3.heap.size) W' (k + 1) cur [.slice fa zm.fs.length fc, .slice ua zm.us.length uc] zm (fun b hb => hZ b hb.1) hBd (Nat.le_trans hG1 HPL.out.2) HPL.out.1 (by omega) (MsgE.go hK1 (fun b hb => hZ b hb.1) (fun _ h => h) d _ _ HZ.out))
        rw [show ((k + 1 : Nat) : Int) = (k : Int) + 1 by omega] at HIW
        have HK1 := hid hK1
        clear hK1 hlt2 hBd
        gi_wp2_with fail
        refine ⟨trivial, (CallsIn.inRound l (callsIn_wide.2 HIW.out)).mono ?_⟩
        rintro e W4 ⟨rfl, hb4, Bd4⟩
        have HB4 := hid hb4
        have HBd4 := hid Bd4
        have hsB := HK1.out.size
        have HKF : Hid (KeepsFrom w3.heap.size W' W4) := hid ⟨hb4.size, fun k o h1 hk _ => (hb4.block k (Array.getElem?_eq_some_iff.1 hk).1 (by omega)).trans hk⟩
        clear hb4 HIW x6 z6 x7 z7 x11 z11 xX zX Bd4
        gi_wp2
        exact ⟨HKF.out, HB4.out.weak (fun _ h => h.2), HK1.out.trans HB4.out, by rw [HFO.out]; exact HBd4.out⟩
      case done =>
        rintro D xs W' hD hS ⟨hK1, hBd⟩ hK
        have HK1 := hid hK1
        rw [hS] at hBd
        have HBd2 := hid hBd
        have HPL := hid (dpL_le d (k + 1) 8000000 (allM f) gj hG1 hG2 (by omega))
        have HR : Hid (res = (m.fs.drop (j + 1)).foldl (fun a f => (allM f).foldl (fun a z => dpW d (k + 1 + 1) a z) a) ((allM f).foldl (fun a z => dpW d (k + 1 + 1) a z) gj)) := hid (by rw [HA.out, HD.out])
        generalize (allM f).foldl (fun a z => dpW d (k + 1 + 1) a z) gj = nx at *
        have hsw := hK1.size
        have HCd : Hid (Coll W' w1.heap.size (D :: Ds)) := hid ((HCq.out.keep (fun E hE => hK1.block E (HCq.out.lt hE) (by have := (HCq.out.2 E hE).1; omega))).cons (by omega) (fun h => by have := HCq.out.lt h; omega) hK)
        have hbd : Hid (Keep (· ≠ pd) w1 W') := hid (hbq1.out.trans hK1)
        clear hK1 hS hK hBd
        gi_wp2
        exact ⟨⟨j + 1, nx, D :: Ds, _, _, _, _, _, _, _, _, _, _, _, _, _, _, _, _, _, _, _, _, rfl, by omega, HR, hid ⟨Nat.le_trans hG1 HPL.out.2, HPL.out.1⟩, HBd2, HCd, hbd⟩, by simp [intOf]; omega⟩
      case stop =>
        rintro D c pre W' hD hSp hF hK
        exact hF.elim
    · have k2 : ¬ (j : Int) < (m.fs.length : Int) := by omega
      have HE : Hid (res = gj) := hid (by rw [HA.out, List.drop_of_length_le (by omega)]; rfl)
      have x8 := B8'.cellF
      have y8 := B8'.frz
      have z8 := B8'.lt
      have HB8 := hid (B8'.set 0 (.bool true))
      have hbw : Hid (Keep (· ≠ pd) w W) := hid (hbz.out.trans hb.out)
      have hsW := hb.out.size
      gi_wp2
      refine leave_all (base := w1.heap.size) 3 Ds _ (HC.out.keep (fun D hD => Below.heap_setCell _ _ _ _ (by have := (HC.out.2 D hD).1; simp; omega))) (by simpa [World.setCell] using hsW) (fun W' hW' => ?_)
      have B9 : Blk W' (w.heap.size + 1 + 1 + 1) 4 #[.bool true] := (hW'.block _ (by omega)).trans HB8.out
      have x9 := B9.cellF
      have y9 := B9.frz
      have z9 := B9.lt
      have Bz : Blk W' pd 3 #[.int .i64 (gj : Int)] := (hW'.block _ (by omega)).trans (HBJ.out.other (by simp; omega) _)
      exact ⟨.bool true, by simp [results, Tryz.results41, go_sem, x9, y9, z9], rfl, kpThen (kpThen hbw.out (by have := Below.refl w.heap.size W; exact Below.setCell this (by simp; omega) _)) (hW'.mono (by omega)), by rw [HE.out]; exact Bz⟩
theorem depthT (d : Nat) (hd : d ≤ 4000000) (w : World) (Z : Nat → Prop) (cs : List Value) (m : CM) (h : MsgE w Z d cs m) : Calls Tryz.prog 17 #[.agg cs.toArray] w fun e w' => e = .returned (.int .i64 (depM d m)) ∧ Below w.heap.size w w' := by
  have h0 := MsgE.old d _ _ h
  have HW : Hid (∀ (W : World) (p : Nat), Below w.heap.size w W → w.heap.size ≤ p → Blk W p 3 #[.int .i64 0] → Calls Tryz.prog 41 #[.int .i64 1, .agg cs.toArray, .func (.func 40) #[] #[.pointer (some ⟨p, 0, none⟩)], .func (.func 42) #[] #[]] W fun e w' => e = .returned (.bool true) ∧ Keep (· ≠ p) W w' ∧ Blk w' p 3 #[.int .i64 ((depM d m : Nat) : Int)]) := hid fun W p hW hp hB => by
    have := walkD p d (fun b => Z b ∧ b < w.heap.size) W 0 0 cs m (fun b hb => by have := hb.2; omega) hB (Nat.le_refl _) (by omega) (by omega) (h0.kept hW)
    rw [show dpW d (0 + 1) 0 m = depM d m from depth_of d m] at this
    exact this
  obtain ⟨ka, kc, va, vc, rfl, -⟩ := msg_openD h
  generalize depM d m = res at *
  clear h h0
  go_enter Tryz.func17, Tryz.ntmps17
  go_wp2_with fail
  refine (HW.out _ (w.heap.size + 1) (by exact blBy) (by omega) (Blk.newAt (by simp))).mono ?_
  rintro e w1 ⟨rfl, hk, Bd⟩
  have hb1 : Hid (Below w.heap.size w w1) := hid (Below.trans (by exact blBy) (hk.below (by simp; omega) (fun k hk => by omega)))
  have xd := Bd.cellF
  have zd := Bd.lt
  clear hk
  go_wp2
  go_ret
  exact ⟨rfl, hb1.out⟩
end Go.Proofs.YtpmpfcnmjdeoiaaGreatDoor
namespace Go.Proofs.YtpmpfcnmjdeoiaaGreatDoor
open Go.ChangeShapes Go.WideShapes Go.ChangeAt Go.RowKit Go.Deep
set_option maxRecDepth 1000000
section
variable {H : Type}
end
end Go.Proofs.YtpmpfcnmjdeoiaaGreatDoor
namespace Go.Proofs.YtpmpfcnmjdeoiaaGreatDoor
open Go.ChangeShapes Go.WideShapes Go.ChangeAt Go.RowKit Go.Deep
set_option maxRecDepth 1000000
set_option linter.unusedVariables false
set_option linter.unusedSimpArgs false
set_option maxHeartbeats 1000000
section
variable {H : Type} {enc : TypeId × Value → H} {W : World} {spare : Nat → Bool} {held : Bool}
end
end Go.Proofs.YtpmpfcnmjdeoiaaGreatDoor
namespace Go.Proofs.YtpmpfcnmjdeoiaaGreatDoor
open Go.ChangeShapes Go.WideShapes Go.ChangeAt Go.RowKit Go.Deep
set_option maxRecDepth 1000000
set_option linter.unusedVariables false
set_option linter.unusedSimpArgs false
set_option maxHeartbeats 1000000
section
variable {H : Type} {enc : TypeId × Value → H} {W : World} {spare : Nat → Bool} {held : Bool}
end
end Go.Proofs.YtpmpfcnmjdeoiaaGreatDoor
namespace Go.Proofs.YtpmpfcnmjdeoiaaGreatDoor
open Go.RowKit
set_option maxRecDepth 1000000
set_option linter.unusedVariables false
set_option linter.unusedSimpArgs false
set_option maxHeartbeats 1000000
def defV (v : CV CM) : Bool := (v.n == 0) && ((v.b.length : Int) == 0)
/-- Whether a typed field is more than if it were not there. -/
def toldO (o : FT) (f : CF CM) : Bool := if o.lab = 0 then (match f.vs with | v :: _ => !(defV v) | [] => true) else if o.lab = 2 ∨ o.lab = 3 ∨ o.lab = 5 then decide (0 < f.vs.length) else true
def toldB (fs : List FT) (f : CF CM) : Bool := toldO (ownF fs f.num) f
def takenO (o : FT) (ok : Bool) (k : Int) : Bool := ok && (tvF o k || trF o k)
def takenB (fs : List FT) (e : CE) : Bool := takenO (ownF fs e.num) (hasF fs e.num) e.kind
theorem told_zero {o : FT} {f : CF CM} (h0 : o.lab = 0) (h : 0 < f.vs.length) : toldO o f = !((f.vs[0].n == 0) && ((f.vs[0].b.length : Int) == 0)) := by
  obtain ⟨num, ks, vs⟩ := f
  cases vs with
  | nil => simp at h
  | cons v r => simp only [toldO, h0, if_pos, defV, List.getElem_cons_zero]
theorem isDefM (w : World) (n : Int) (ba ma : Option Addr) (bn bc mn mc : Nat) (l1 : bn ≤ 4000000) : Calls Tryz.prog 118 #[.agg #[.int .u64 n, .slice ba bn bc, .slice ma mn mc]] w fun e w' => e = .returned (.bool ((n == 0) && ((bn : Int) == 0))) ∧ Below w.heap.size w w' := by
  have m1 : (bn : Int) ≤ 9223372036854775807 := by omega
  go_enter Tryz.func118, Tryz.ntmps118
  go_wp2
  all_goals (go_ret; exact ⟨ret_bool (by simp [*]), by exact blBy⟩)
theorem isToldM (w : World) (x : TV) (hx : TyR w x) (hr : Rise x.t.fs) (hl : x.t.fs.length ≤ 128) (Z : Nat → Prop) (d : Nat) (cs : List Value) (f : CF CM) (hf : FldE w Z (MsgE w Z d) cs f) (hv : (ownF x.t.fs f.num).lab = 0 → 0 < f.vs.length) : Calls Tryz.prog 85 #[.agg (cTV x).toArray, .agg cs.toArray] w fun e w' => e = .returned (.bool (toldB x.t.fs f)) ∧ Below w.heap.size w w' := by
  obtain ⟨ta1, tc1, ta2, tc2, ta3, tc3, ta4, tc4, e1, e2, e3, e4⟩ := shT_of hx
  have ecx : cTV x = [.string (strOfNums x.t.name), .bool x.t.enum, .slice ta1 x.t.fs.length tc1, .slice ta2 x.t.os.length tc2, .slice ta3 x.t.ss.length tc3, .slice ta4 x.t.rs.length tc4] := by unfold cTV; rw [e1, e2, e3, e4]
  rw [ecx]
  have HFO := hid fun W (hW : Below w.heap.size w W) => findT x.t.fs f.num W ta1 tc1 (by rw [← e1]; exact (hx.kept hW).f) hr hl
  obtain ⟨ka, kc, va, vc, rfl, -, g2, l1, l2, -⟩ := fld_open hf
  have G := hid g2
  have m2 : (f.vs.length : Int) ≤ 9223372036854775807 := by omega
  have HX0 : Hid (toldB x.t.fs f = toldO (ownF x.t.fs f.num) f) := hid rfl
  generalize toldB x.t.fs f = res at *
  generalize ownF x.t.fs f.num = o at *
  generalize hasF x.t.fs f.num = ok at *
  clear hx hf g2 hr hl e1 e2 e3 e4 ecx
  by_cases h0 : o.lab = 0
  · have hvl := hv h0
    obtain ⟨b1, o1, ba1, bc1, ma1, mc1, rfl, -, hb1, c0, c1, c2, he⟩ := vls_at G.out (i := 0) hvl
    obtain ⟨_, _, _, _, e5, -, -, bl1, -, -⟩ := val_open he
    clear e5 he
    have HX : Hid (res = !((f.vs[0].n == 0) && ((f.vs[0].b.length : Int) == 0))) := hid (by rw [HX0.out]; exact told_zero h0 hvl)
    have k0 : (o.lab == 0) = true := by simp [h0]
    have k1 : (0 : Int) < (f.vs.length : Int) := by omega
    have hvl' := hid hvl
    clear HX0 h0 hv
    generalize f.vs[0] = v at *
    simp only [Nat.zero_mul, Nat.add_zero] at c0 c1 c2
    go_enter Tryz.func85, Tryz.ntmps85
    go_wp2_with fail
    refine (HFO.out _ (by exact blBy)).mono ?_
    rintro e w1 ⟨rfl, hbx⟩
    unfold tFT
    have HB1 : Hid (Below w.heap.size w w1) := hid (bl_then (by exact blBy) hbx)
    have Bf : Blk w1 (w.heap.size + 1) 29 #[.int .i64 f.num, .slice ka f.ks.length kc, .slice (some ⟨b1, o1, none⟩) f.vs.length vc] := (Blk.newAt (by simp)).kept hbx
    have xf := Bf.cellF
    have zf := Bf.lt
    replace c0 := cell_below c0 HB1.out
    replace c1 := cell_below c1 HB1.out
    replace c2 := cell_below c2 HB1.out
    replace hb1 : b1 < w1.heap.size := World.block_lt_of_cell? _ _ c0
    clear hbx HFO Bf
    go_wp2_with fail
    refine (isDefM _ v.n ba1 ma1 v.b.length bc1 v.ms.length mc1 bl1).mono ?_
    rintro e w2 ⟨rfl, hb2⟩
    have HB2 : Hid (Below w.heap.size w w2) := hid (bl_then (by have := HB1.out; exact blBy) hb2)
    clear hb2
    go_wp2
    go_ret
    exact ⟨ret_bool (by rw [HX.out]; simp), HB2.out⟩
  have k0 : (o.lab == 0) = false := by simpa using h0
  by_cases h2 : o.lab = 2
  · have k2 : (o.lab == 2) = true := by simp [h2]
    have HX : Hid (res = decide (0 < f.vs.length)) := hid (by rw [HX0.out]; unfold toldO; rw [if_neg h0, if_pos (by omega)])
    clear HX0 h0  h2 hv
    by_cases hn : 0 < f.vs.length
    · have k1 : (0 < (f.vs.length : Int)) = True := eq_true (by omega)
      have k9 : (0 < f.vs.length) = True := eq_true hn
      have HX2 : Hid (res = true) := hid (by rw [HX.out]; simpa using hn)
      clear hn HX
      go_enter Tryz.func85, Tryz.ntmps85
      go_wp2_with fail
      refine (HFO.out _ (by exact blBy)).mono ?_
      rintro e w1 ⟨rfl, hbx⟩
      unfold tFT
      have HB1 : Hid (Below w.heap.size w w1) := hid (bl_then (by exact blBy) hbx)
      have Bf : Blk w1 (w.heap.size + 1) 29 #[.int .i64 f.num, .slice ka f.ks.length kc, .slice va f.vs.length vc] := (Blk.newAt (by simp)).kept hbx
      have xf := Bf.cellF
      have zf := Bf.lt
      clear hbx HFO Bf
      go_wp2
      go_ret
      exact ⟨ret_bool HX2.out.symm, by have := HB1.out; exact blBy⟩
    · have k1 : (0 < (f.vs.length : Int)) = False := eq_false (by omega)
      have k9 : (0 < f.vs.length) = False := eq_false hn
      have HX2 : Hid (res = false) := hid (by rw [HX.out]; simpa using hn)
      clear hn HX
      go_enter Tryz.func85, Tryz.ntmps85
      go_wp2_with fail
      refine (HFO.out _ (by exact blBy)).mono ?_
      rintro e w1 ⟨rfl, hbx⟩
      unfold tFT
      have HB1 : Hid (Below w.heap.size w w1) := hid (bl_then (by exact blBy) hbx)
      have Bf : Blk w1 (w.heap.size + 1) 29 #[.int .i64 f.num, .slice ka f.ks.length kc, .slice va f.vs.length vc] := (Blk.newAt (by simp)).kept hbx
      have xf := Bf.cellF
      have zf := Bf.lt
      clear hbx HFO Bf
      go_wp2
      go_ret
      exact ⟨ret_bool HX2.out.symm, by have := HB1.out; exact blBy⟩
  by_cases h3 : o.lab = 3
  · have k3 : (o.lab == 3) = true := by simp [h3]
    have k2 : (o.lab == 2) = false := by simpa using h2
    have HX : Hid (res = decide (0 < f.vs.length)) := hid (by rw [HX0.out]; unfold toldO; rw [if_neg h0, if_pos (by omega)])
    clear HX0 h0 h2 h3 hv
    by_cases hn : 0 < f.vs.length
    · have k1 : (0 < (f.vs.length : Int)) = True := eq_true (by omega)
      have k9 : (0 < f.vs.length) = True := eq_true hn
      have HX2 : Hid (res = true) := hid (by rw [HX.out]; simpa using hn)
      clear hn HX
      go_enter Tryz.func85, Tryz.ntmps85
      go_wp2_with fail
      refine (HFO.out _ (by exact blBy)).mono ?_
      rintro e w1 ⟨rfl, hbx⟩
      unfold tFT
      have HB1 : Hid (Below w.heap.size w w1) := hid (bl_then (by exact blBy) hbx)
      have Bf : Blk w1 (w.heap.size + 1) 29 #[.int .i64 f.num, .slice ka f.ks.length kc, .slice va f.vs.length vc] := (Blk.newAt (by simp)).kept hbx
      have xf := Bf.cellF
      have zf := Bf.lt
      clear hbx HFO Bf
      go_wp2
      go_ret
      exact ⟨ret_bool HX2.out.symm, by have := HB1.out; exact blBy⟩
    · have k1 : (0 < (f.vs.length : Int)) = False := eq_false (by omega)
      have k9 : (0 < f.vs.length) = False := eq_false hn
      have HX2 : Hid (res = false) := hid (by rw [HX.out]; simpa using hn)
      clear hn HX
      go_enter Tryz.func85, Tryz.ntmps85
      go_wp2_with fail
      refine (HFO.out _ (by exact blBy)).mono ?_
      rintro e w1 ⟨rfl, hbx⟩
      unfold tFT
      have HB1 : Hid (Below w.heap.size w w1) := hid (bl_then (by exact blBy) hbx)
      have Bf : Blk w1 (w.heap.size + 1) 29 #[.int .i64 f.num, .slice ka f.ks.length kc, .slice va f.vs.length vc] := (Blk.newAt (by simp)).kept hbx
      have xf := Bf.cellF
      have zf := Bf.lt
      clear hbx HFO Bf
      go_wp2
      go_ret
      exact ⟨ret_bool HX2.out.symm, by have := HB1.out; exact blBy⟩
  by_cases h5 : o.lab = 5
  · have k5 : (o.lab == 5) = true := by simp [h5]
    have k2 : (o.lab == 2) = false := by simpa using h2
    have k3 : (o.lab == 3) = false := by simpa using h3
    have HX : Hid (res = decide (0 < f.vs.length)) := hid (by rw [HX0.out]; unfold toldO; rw [if_neg h0, if_pos (by omega)])
    clear HX0 h0 h2 h3 h5 hv
    by_cases hn : 0 < f.vs.length
    · have k1 : (0 < (f.vs.length : Int)) = True := eq_true (by omega)
      have k9 : (0 < f.vs.length) = True := eq_true hn
      have HX2 : Hid (res = true) := hid (by rw [HX.out]; simpa using hn)
      clear hn HX
      go_enter Tryz.func85, Tryz.ntmps85
      go_wp2_with fail
      refine (HFO.out _ (by exact blBy)).mono ?_
      rintro e w1 ⟨rfl, hbx⟩
      unfold tFT
      have HB1 : Hid (Below w.heap.size w w1) := hid (bl_then (by exact blBy) hbx)
      have Bf : Blk w1 (w.heap.size + 1) 29 #[.int .i64 f.num, .slice ka f.ks.length kc, .slice va f.vs.length vc] := (Blk.newAt (by simp)).kept hbx
      have xf := Bf.cellF
      have zf := Bf.lt
      clear hbx HFO Bf
      go_wp2
      go_ret
      exact ⟨ret_bool HX2.out.symm, by have := HB1.out; exact blBy⟩
    · have k1 : (0 < (f.vs.length : Int)) = False := eq_false (by omega)
      have k9 : (0 < f.vs.length) = False := eq_false hn
      have HX2 : Hid (res = false) := hid (by rw [HX.out]; simpa using hn)
      clear hn HX
      go_enter Tryz.func85, Tryz.ntmps85
      go_wp2_with fail
      refine (HFO.out _ (by exact blBy)).mono ?_
      rintro e w1 ⟨rfl, hbx⟩
      unfold tFT
      have HB1 : Hid (Below w.heap.size w w1) := hid (bl_then (by exact blBy) hbx)
      have Bf : Blk w1 (w.heap.size + 1) 29 #[.int .i64 f.num, .slice ka f.ks.length kc, .slice va f.vs.length vc] := (Blk.newAt (by simp)).kept hbx
      have xf := Bf.cellF
      have zf := Bf.lt
      clear hbx HFO Bf
      go_wp2
      go_ret
      exact ⟨ret_bool HX2.out.symm, by have := HB1.out; exact blBy⟩
  · have k2 : (o.lab == 2) = false := by simpa using h2
    have k3 : (o.lab == 3) = false := by simpa using h3
    have k5 : (o.lab == 5) = false := by simpa using h5
    have HX : Hid (res = true) := hid (by rw [HX0.out]; unfold toldO; rw [if_neg h0, if_neg (by omega)])
    clear HX0 h0 h2 h3 h5 hv
    go_enter Tryz.func85, Tryz.ntmps85
    go_wp2_with fail
    refine (HFO.out _ (by exact blBy)).mono ?_
    rintro e w1 ⟨rfl, hbx⟩
    unfold tFT
    have HB1 : Hid (Below w.heap.size w w1) := hid (bl_then (by exact blBy) hbx)
    have Bf : Blk w1 (w.heap.size + 1) 29 #[.int .i64 f.num, .slice ka f.ks.length kc, .slice va f.vs.length vc] := (Blk.newAt (by simp)).kept hbx
    have xf := Bf.cellF
    have zf := Bf.lt
    clear hbx HFO Bf
    go_wp2
    go_ret
    exact ⟨ret_bool HX.out.symm, by have := HB1.out; exact blBy⟩
theorem isTakenM (w : World) (x : TV) (hx : TyR w x) (hr : Rise x.t.fs) (hl : x.t.fs.length ≤ 128) (Z : Nat → Prop) (cs : List Value) (y : CE) (hy : EntE w Z cs y) : Calls Tryz.prog 87 #[.agg (cTV x).toArray, .agg cs.toArray] w fun e w' => e = .returned (.bool (takenB x.t.fs y)) ∧ Below w.heap.size w w' := by
  obtain ⟨ta1, tc1, ta2, tc2, ta3, tc3, ta4, tc4, e1, e2, e3, e4⟩ := shT_of hx
  have ecx : cTV x = [.string (strOfNums x.t.name), .bool x.t.enum, .slice ta1 x.t.fs.length tc1, .slice ta2 x.t.os.length tc2, .slice ta3 x.t.ss.length tc3, .slice ta4 x.t.rs.length tc4] := by unfold cTV; rw [e1, e2, e3, e4]
  rw [ecx]
  have HFO := hid fun W (hW : Below w.heap.size w W) => findT x.t.fs y.num W ta1 tc1 (by rw [← e1]; exact (hx.kept hW).f) hr hl
  obtain ⟨ba, bc, rfl, -⟩ := ent_open hy
  have HX0 : Hid (takenB x.t.fs y = takenO (ownF x.t.fs y.num) (hasF x.t.fs y.num) y.kind) := hid rfl
  generalize takenB x.t.fs y = res at *
  generalize ownF x.t.fs y.num = o at *
  generalize hasF x.t.fs y.num = ok at *
  clear hx hy hr hl e1 e2 e3 e4 ecx
  cases ok with
  | false =>
    have HX : Hid (res = false) := hid (by rw [HX0.out]; rfl)
    go_enter Tryz.func87, Tryz.ntmps87
    go_wp2_with fail
    refine (HFO.out _ (by exact blBy)).mono ?_
    rintro e w1 ⟨rfl, hbx⟩
    unfold tFT
    have HB1 : Hid (Below w.heap.size w w1) := hid (bl_then (by exact blBy) hbx)
    have Be : Blk w1 (w.heap.size + 1) 40 #[.int .i64 y.num, .int .i64 y.kind, .int .u64 y.n, .slice ba y.b.length bc] := (Blk.newAt (by simp)).kept hbx
    have xe := Be.cellF
    have ze := Be.lt
    clear hbx HFO
    go_wp2
    go_ret
    exact ⟨ret_bool HX.out.symm, by have := HB1.out; exact blBy⟩
  | true =>
    have HX1 : Hid (res = (tvF o y.kind || trF o y.kind)) := hid (by rw [HX0.out]; simp [takenO])
    have HTV := hid fun W => takesValueT o W y.kind
    have HTR := hid fun W => takesRowT o W y.kind
    cases hq : tvF o y.kind with
    | true =>
      rw [hq, Bool.true_or] at HX1
      rw [hq] at HTV
      go_enter Tryz.func87, Tryz.ntmps87
      go_wp2_with fail
      refine (HFO.out _ (by exact blBy)).mono ?_
      rintro e w1 ⟨rfl, hbx⟩
      unfold tFT
      have HB1 : Hid (Below w.heap.size w w1) := hid (bl_then (by exact blBy) hbx)
      have Be : Blk w1 (w.heap.size + 1) 40 #[.int .i64 y.num, .int .i64 y.kind, .int .u64 y.n, .slice ba y.b.length bc] := (Blk.newAt (by simp)).kept hbx
      have xe := Be.cellF
      have ze := Be.lt
      clear hbx HFO
      go_wp2_with fail
      refine (HTV.out _).mono ?_
      rintro e w2 ⟨rfl, hb2⟩
      have HB2 : Hid (Below w.heap.size w w2) := hid (bl_then (by have := HB1.out; exact blBy) hb2)
      clear hb2
      go_wp2
      go_ret
      exact ⟨ret_bool HX1.out.symm, HB2.out⟩
    | false =>
      rw [hq, Bool.false_or] at HX1
      rw [hq] at HTV
      go_enter Tryz.func87, Tryz.ntmps87
      go_wp2_with fail
      refine (HFO.out _ (by exact blBy)).mono ?_
      rintro e w1 ⟨rfl, hbx⟩
      unfold tFT
      have HB1 : Hid (Below w.heap.size w w1) := hid (bl_then (by exact blBy) hbx)
      have Be : Blk w1 (w.heap.size + 1) 40 #[.int .i64 y.num, .int .i64 y.kind, .int .u64 y.n, .slice ba y.b.length bc] := (Blk.newAt (by simp)).kept hbx
      have xe := Be.cellF
      have ze := Be.lt
      clear hbx HFO
      go_wp2_with fail
      refine (HTV.out _).mono ?_
      rintro e w2 ⟨rfl, hb2⟩
      have HB2 : Hid (Below w.heap.size w w2) := hid (bl_then (by have := HB1.out; exact blBy) hb2)
      have Be2 : Blk w2 (w.heap.size + 1) 40 #[.int .i64 y.num, .int .i64 y.kind, .int .u64 y.n, .slice ba y.b.length bc] := by first | exact Be.kept hb2 | exact (Be.kept (below_alloc _)).kept hb2
      have xe2 := Be2.cellF
      have Bo2 : Blk w2 w1.heap.size 82 #[.string (strOfNums o.name), .int .i64 o.num, .int .i64 o.kind, .int .i64 o.ref, .int .i64 o.lab, .int .i64 o.one, .int .i64 o.key] := (Blk.new _ _ _).kept hb2
      have xo2 := Bo2.cellF
      have zo2 := Bo2.lt
      have ze2 := Be2.lt
      clear hb2
      go_wp2_with fail
      refine (HTR.out _).mono ?_
      rintro e w3 ⟨rfl, hb3⟩
      have HB3 : Hid (Below w.heap.size w w3) := hid (bl_then (by have := HB2.out; exact blBy) hb3)
      clear hb3
      go_wp2
      go_ret
      exact ⟨ret_bool HX1.out.symm, HB3.out⟩
end Go.Proofs.YtpmpfcnmjdeoiaaGreatDoor
