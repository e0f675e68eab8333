/-
  The document's answer: is another member of a oneof there?
  A field of a type.
  Copy: what the program answers, at every depth.
  Copy: what the program answers: every message in new memory.
  Those of a list that are so; whether all are so; the first one that is so.
  Get, Clear: what the program answers.
  Depth, Get: what the document answers.
  Get: what the document answers.
  A field of a type, whole.
  A field that is typed.
  What a typed message holds, itself.
-/
import Derived.Test.YtnfdlnelfnigdaaGreatDoorCI
import Derived.Test.YtnfdlnelfnigdaaGreatDoorCAQ
import Derived.Test.YtnfdlnelfnigdaaGreatDoorCAO
import Derived.Test.YtnfdlnelfnigdaaGreatDoorCAH
import Derived.Test.YtnfdlnelfnigdaaGreatDoorCAB
import Derived.Test.YtnfdlnelfnigdaaGreatDoorCTY0
namespace Go.Proofs.YtnfdlnelfnigdaaGreatDoor
open Go.RowKit
set_option maxRecDepth 1000000
set_option linter.unusedVariables false
set_option linter.unusedSimpArgs false
set_option maxHeartbeats 2000000
theorem FlsR.old8 {w : World} {Z : Nat → Prop} {d : Nat} {v : Value} {xs : List (CF CM)} (h : FlsR w Z d v xs) : FlsR w (fun b => Z b ∧ b < w.heap.size) d v xs := RowM.old (by decide) h (fun cs x _ hx => (famF d).old hx)
theorem find_own (fs : List FT) (n : Int) : (fs.find? (fun f => decide (f.num = n))).getD ftZ = ownF fs n := by
  unfold ownF
  congr 2
theorem find_has (fs : List FT) (n : Int) : (fs.find? (fun f => decide (f.num = n))).isSome = hasF fs n := by
  unfold hasF
  congr 2
/-- Whether a field is another member of f's oneof. -/
def othP (fs : List FT) (f : FT) (x : CF CM) : Bool := hasF fs x.num && (((ownF fs x.num).lab == 4) && (((ownF fs x.num).one == f.one) && ((ownF fs x.num).num != f.num)))
theorem otherD (w : World) (l : List TV) (ta : Option Addr) (tc : Nat) (h : TbR w (.slice ta l.length tc) l) (i : Nat) (hi : i < l.length) (Z : Nat → Prop) (d : Nat) (cs : List Value) (m : CM) (hm : MsgE w Z (d + 1) cs m) (f : FT) : Calls Tryz.prog 43 #[.agg #[.slice ta l.length tc], .int .i64 (i : Int), .agg cs.toArray, .agg #[.string (strOfNums f.name), .int .i64 f.num, .int .i64 f.kind, .int .i64 f.ref, .int .i64 f.lab, .int .i64 f.one, .int .i64 f.key]] w fun e w' => e = .returned (.bool (m.fs.any (othP l[i].t.fs f))) ∧ Below w.heap.size w w' := by
  obtain ⟨a1, c1, a2, c2, rfl, g, -, l1, -⟩ := msg_open hm
  have m1 : (m.fs.length : Int) ≤ 9223372036854775807 := by omega
  have G := hid (FlsR.old8 g)
  have HFD : Hid (∀ (W : World) (n : Int), Below w.heap.size w W → Calls Tryz.prog 40 #[.agg #[.slice ta l.length tc], .int .i64 (i : Int), .int .i64 n] W fun e w' => e = .returned (.tuple #[.agg #[.string (strOfNums (ownF l[i].t.fs n).name), .int .i64 (ownF l[i].t.fs n).num, .int .i64 (ownF l[i].t.fs n).kind, .int .i64 (ownF l[i].t.fs n).ref, .int .i64 (ownF l[i].t.fs n).lab, .int .i64 (ownF l[i].t.fs n).one, .int .i64 (ownF l[i].t.fs n).key], .bool (hasF l[i].t.fs n)]) ∧ Below W.heap.size W w') := hid fun W n hW => by
    have := fieldDR W l ta tc (h.kept hW) i hi n
    rw [find_own, find_has] at this
    exact this
  generalize l[i].t.fs = fs at *
  clear h hm g hi
  go_enter Tryz.func43, Tryz.ntmps43
  go_wp2
  go_loopw [9] (fun s9 wr => ∃ (j : Nat), s9 = .int .i64 j ∧ j ≤ m.fs.length ∧ Hid (m.fs.any (othP fs f) = (m.fs.drop j).any (othP fs f)) ∧ Hid (Blk wr (w.heap.size) 46 #[.slice ta l.length tc]) ∧ Hid (Blk wr (w.heap.size + 1) 35 #[.slice a1 m.fs.length c1, .slice a2 m.us.length c2]) ∧ Hid (Blk wr (w.heap.size + 1 + 1) 77 #[.string (strOfNums f.name), .int .i64 f.num, .int .i64 f.kind, .int .i64 f.ref, .int .i64 f.lab, .int .i64 f.one, .int .i64 f.key]) ∧ Hid (Below w.heap.size w wr)) (fun s9 wr => m.fs.length - numAt wr s9)
  case atStart => exact ⟨0, rfl, by omega, hid rfl, hid (((Blk.new _ _ _).kept (below_alloc _)).kept (below_alloc _)), hid ((Blk.newAt (by simp)).kept (below_alloc _)), hid (Blk.newAt (by simp)), hid (by exact blBy)⟩
  case round =>
    obtain ⟨j, rfl, hj, HA, BT, BM, BF, hb⟩ := hrel
    have xt := BT.out.cellF
    have zt := BT.out.lt
    have xm := BM.out.cellF
    have zm := BM.out.lt
    have xf := BF.out.cellF
    have zf := BF.out.lt
    by_cases hlt : j < m.fs.length
    · have k2 : (j : Int) < (m.fs.length : Int) := by omega
      obtain ⟨b1, o1, pa, pc, qa, qc, rfl, hz1, hb1, c0, -, -, -⟩ := fls_at (G.out.kept hb.out) hlt
      have HD : Hid ((m.fs.drop j).any (othP fs f) = (othP fs f m.fs[j] || (m.fs.drop (j + 1)).any (othP fs f))) := hid (by rw [List.drop_eq_getElem_cons hlt, List.any_cons])
      generalize m.fs[j] = x at *
      have hbl := hz1.2
      have hsz := hb.out.size
      have HFX := hid fun W hW => HFD.out W x.num hW
      have HOP : Hid (othP fs f x = (hasF fs x.num && (((ownF fs x.num).lab == 4) && (((ownF fs x.num).one == f.one) && ((ownF fs x.num).num != f.num))))) := hid rfl
      generalize othP fs f x = op at *
      generalize ownF fs x.num = g at *
      generalize hasF fs x.num = ok at *
      have HSK : Hid (∀ W, Keep (· < wr.heap.size) wr W → (fun W => (∀ k, W.cell? ⟨w.heap.size, k, none⟩ = #[.slice ta l.length tc][k]?) ∧ (∀ k, W.cell? ⟨w.heap.size + 1, k, none⟩ = #[.slice (some ⟨b1, o1, none⟩) m.fs.length c1, .slice a2 m.us.length c2][k]?) ∧ W.cell? ⟨b1, o1 + j * 3, none⟩ = some (.int .i64 x.num)) W) := hid fun W hk => ⟨(BT.out.keep hk (show _ < _ by omega)).cellF, (BM.out.keep hk (show _ < _ by omega)).cellF, cell_kp c0 hk (show _ < _ by omega)⟩
      clear hz1
      go_upto_region 4 with fail
      clear xt zt xm zm xf zf
      go_region_held3 (fun W => (∀ k, W.cell? ⟨w.heap.size, k, none⟩ = #[.slice ta l.length tc][k]?) ∧ (∀ k, W.cell? ⟨w.heap.size + 1, k, none⟩ = #[.slice (some ⟨b1, o1, none⟩) m.fs.length c1, .slice a2 m.us.length c2][k]?) ∧ W.cell? ⟨b1, o1 + j * 3, none⟩ = some (.int .i64 x.num)) (exact HSK.out _ (by (with_reducible repeat (first | exact K1.out | exact Keep.refl _ _ | refine kpS ?_ (by first | (simp; done) | (simp; omega) | omega) | refine kpA ?_ _ | refine kpD ?_ | refine kpN ?_ _)))) ((go_at_call 40; refine (HFX.out _ (by have := hb.out; exact blBy)).mono ?_; rintro e u1 ⟨rfl, hbu⟩; (first | (have X1 : Hid (Blk u1 wr.heap.size 77 #[.string ⟨#[]⟩, .int .i64 0, .int .i64 0, .int .i64 0, .int .i64 0, .int .i64 0, .int .i64 0]) := hid (Blk.kept (by first | with_reducible exact (Blk.newAt (w := wr) rfl).kept (below_drew1 _) | with_reducible exact Blk.newAt (w := wr.drew) rfl) hbu); have xx1 := X1.out.cellF; have xy1 := X1.out.frz; have xz1 := X1.out.lt) | skip); have K1 : Hid (Keep (· < wr.heap.size) wr u1) := hid (Keep.trans (by (with_reducible repeat (first | exact K1.out | exact Keep.refl _ _ | refine kpS ?_ (by first | (simp; done) | (simp; omega) | omega) | refine kpA ?_ _ | refine kpD ?_ | refine kpN ?_ _))) (Keep.ofBelow hbu)); have hsu := hbu.size; (try simp at hsu); clear hbu))
      all_goals (
        have BF2 : Blk u1 (w.heap.size + 1 + 1) 77 #[.string (strOfNums f.name), .int .i64 f.num, .int .i64 f.kind, .int .i64 f.ref, .int .i64 f.lab, .int .i64 f.one, .int .i64 f.key] := BF.out.keep K1.out (show _ < _ from by have := BF.out.lt; exact this)
        have BM2 : Blk u1 (w.heap.size + 1) 35 #[.slice (some ⟨b1, o1, none⟩) m.fs.length c1, .slice a2 m.us.length c2] := BM.out.keep K1.out (show _ < _ from by have := BM.out.lt; exact this)
        have xf2 := BF2.cellF
        have zf2 := BF2.lt
        have xm2 := BM2.cellF
        have zm2 := BM2.lt
        have hlt1 := BT.out.lt
        have hlt2 := BM.out.lt
        have hlt3 := BF.out.lt
        have HRT : Hid (op = true → m.fs.any (othP fs f) = true) := hid (fun e => by rw [HA.out, HD.out, e]; rfl)
        have HRF : Hid (op = false → m.fs.any (othP fs f) = (m.fs.drop (j + 1)).any (othP fs f)) := hid (fun e => by rw [HA.out, HD.out, e]; rfl)
        clear HFD HFX HSK
        cases ok with
        | false =>
          have HR := hid (HRF.out (by rw [HOP.out]; rfl))
          clear HRT HRF HOP
          go_wp2
          exact ⟨⟨j + 1, by simp, by omega, HR, hid (BT.out.keep (show Keep (· < wr.heap.size) wr _ from by (with_reducible repeat (first | exact K1.out | exact Keep.refl _ _ | refine kpS ?_ (by first | (simp; done) | (simp; omega) | omega) | refine kpA ?_ _ | refine kpD ?_ | refine kpN ?_ _))) hlt1), hid (BM.out.keep (show Keep (· < wr.heap.size) wr _ from by (with_reducible repeat (first | exact K1.out | exact Keep.refl _ _ | refine kpS ?_ (by first | (simp; done) | (simp; omega) | omega) | refine kpA ?_ _ | refine kpD ?_ | refine kpN ?_ _))) hlt2), hid (BF.out.keep (show Keep (· < wr.heap.size) wr _ from by (with_reducible repeat (first | exact K1.out | exact Keep.refl _ _ | refine kpS ?_ (by first | (simp; done) | (simp; omega) | omega) | refine kpA ?_ _ | refine kpD ?_ | refine kpN ?_ _))) hlt3), hid (hb.out.trans ((show Keep (· < wr.heap.size) wr _ from by (with_reducible repeat (first | exact K1.out | exact Keep.refl _ _ | refine kpS ?_ (by first | (simp; done) | (simp; omega) | omega) | refine kpA ?_ _ | refine kpD ?_ | refine kpN ?_ _))).below hsz (fun k hk => by show k < wr.heap.size; omega)))⟩, by simp [numAt]; omega⟩
        | true =>
          cases e1 : (g.lab == 4) with
          | false =>
            have HR := hid (HRF.out (by rw [HOP.out, e1]; rfl))
            clear HRT HRF HOP
            go_wp2
            exact ⟨⟨j + 1, by simp, by omega, HR, hid (BT.out.keep (show Keep (· < wr.heap.size) wr _ from by (with_reducible repeat (first | exact K1.out | exact Keep.refl _ _ | refine kpS ?_ (by first | (simp; done) | (simp; omega) | omega) | refine kpA ?_ _ | refine kpD ?_ | refine kpN ?_ _))) hlt1), hid (BM.out.keep (show Keep (· < wr.heap.size) wr _ from by (with_reducible repeat (first | exact K1.out | exact Keep.refl _ _ | refine kpS ?_ (by first | (simp; done) | (simp; omega) | omega) | refine kpA ?_ _ | refine kpD ?_ | refine kpN ?_ _))) hlt2), hid (BF.out.keep (show Keep (· < wr.heap.size) wr _ from by (with_reducible repeat (first | exact K1.out | exact Keep.refl _ _ | refine kpS ?_ (by first | (simp; done) | (simp; omega) | omega) | refine kpA ?_ _ | refine kpD ?_ | refine kpN ?_ _))) hlt3), hid (hb.out.trans ((show Keep (· < wr.heap.size) wr _ from by (with_reducible repeat (first | exact K1.out | exact Keep.refl _ _ | refine kpS ?_ (by first | (simp; done) | (simp; omega) | omega) | refine kpA ?_ _ | refine kpD ?_ | refine kpN ?_ _))).below hsz (fun k hk => by show k < wr.heap.size; omega)))⟩, by simp [numAt]; omega⟩
          | true =>
            cases e2 : (g.one == f.one) with
            | false =>
              have HR := hid (HRF.out (by rw [HOP.out, e1, e2]; rfl))
              clear HRT HRF HOP
              go_wp2
              exact ⟨⟨j + 1, by simp, by omega, HR, hid (BT.out.keep (show Keep (· < wr.heap.size) wr _ from by (with_reducible repeat (first | exact K1.out | exact Keep.refl _ _ | refine kpS ?_ (by first | (simp; done) | (simp; omega) | omega) | refine kpA ?_ _ | refine kpD ?_ | refine kpN ?_ _))) hlt1), hid (BM.out.keep (show Keep (· < wr.heap.size) wr _ from by (with_reducible repeat (first | exact K1.out | exact Keep.refl _ _ | refine kpS ?_ (by first | (simp; done) | (simp; omega) | omega) | refine kpA ?_ _ | refine kpD ?_ | refine kpN ?_ _))) hlt2), hid (BF.out.keep (show Keep (· < wr.heap.size) wr _ from by (with_reducible repeat (first | exact K1.out | exact Keep.refl _ _ | refine kpS ?_ (by first | (simp; done) | (simp; omega) | omega) | refine kpA ?_ _ | refine kpD ?_ | refine kpN ?_ _))) hlt3), hid (hb.out.trans ((show Keep (· < wr.heap.size) wr _ from by (with_reducible repeat (first | exact K1.out | exact Keep.refl _ _ | refine kpS ?_ (by first | (simp; done) | (simp; omega) | omega) | refine kpA ?_ _ | refine kpD ?_ | refine kpN ?_ _))).below hsz (fun k hk => by show k < wr.heap.size; omega)))⟩, by simp [numAt]; omega⟩
            | true =>
              cases e3 : (g.num != f.num) with
              | false =>
                have HR := hid (HRF.out (by rw [HOP.out, e1, e2, e3]; rfl))
                clear HRT HRF HOP
                go_wp2
                exact ⟨⟨j + 1, by simp, by omega, HR, hid (BT.out.keep (show Keep (· < wr.heap.size) wr _ from by (with_reducible repeat (first | exact K1.out | exact Keep.refl _ _ | refine kpS ?_ (by first | (simp; done) | (simp; omega) | omega) | refine kpA ?_ _ | refine kpD ?_ | refine kpN ?_ _))) hlt1), hid (BM.out.keep (show Keep (· < wr.heap.size) wr _ from by (with_reducible repeat (first | exact K1.out | exact Keep.refl _ _ | refine kpS ?_ (by first | (simp; done) | (simp; omega) | omega) | refine kpA ?_ _ | refine kpD ?_ | refine kpN ?_ _))) hlt2), hid (BF.out.keep (show Keep (· < wr.heap.size) wr _ from by (with_reducible repeat (first | exact K1.out | exact Keep.refl _ _ | refine kpS ?_ (by first | (simp; done) | (simp; omega) | omega) | refine kpA ?_ _ | refine kpD ?_ | refine kpN ?_ _))) hlt3), hid (hb.out.trans ((show Keep (· < wr.heap.size) wr _ from by (with_reducible repeat (first | exact K1.out | exact Keep.refl _ _ | refine kpS ?_ (by first | (simp; done) | (simp; omega) | omega) | refine kpA ?_ _ | refine kpD ?_ | refine kpN ?_ _))).below hsz (fun k hk => by show k < wr.heap.size; omega)))⟩, by simp [numAt]; omega⟩
              | true =>
                have HR := hid (HRT.out (by rw [HOP.out, e1, e2, e3]; rfl))
                clear HRT HRF HOP
                go_wp2
                go_ret
                exact ⟨ret_bool HR.out.symm, hb.out.trans ((show Keep (· < wr.heap.size) wr _ from by (with_reducible repeat (first | exact K1.out | exact Keep.refl _ _ | refine kpS ?_ (by first | (simp; done) | (simp; omega) | omega) | refine kpA ?_ _ | refine kpD ?_ | refine kpN ?_ _))).below hsz (fun k hk => by show k < wr.heap.size; omega))⟩)
    · have k2 : ¬ (j : Int) < (m.fs.length : Int) := by omega
      have HE : Hid (m.fs.any (othP fs f) = false) := hid (by rw [HA.out, List.drop_of_length_le (by omega)]; rfl)
      go_wp2
      go_ret
      exact ⟨ret_bool HE.out.symm, hb.out⟩
set_option maxHeartbeats 1000000
/-- The cells of a field's type. -/
def cOW (o : FT) : Array Value := #[.string (strOfNums o.name), .int .i64 o.num, .int .i64 o.kind, .int .i64 o.ref, .int .i64 o.lab, .int .i64 o.one, .int .i64 o.key]
theorem valFn (w : World) (l : List TV) (ta : Option Addr) (tc : Nat) (h : TbR w (.slice ta l.length tc) l) (o : FT) (hr : 0 ≤ o.ref ∧ o.ref.toNat < l.length) (Z : Nat → Prop) (d : Nat) (cs : List Value) (v : CV CM) (hv : ValE w Z (MsgE w Z d) cs v) (p q : Nat) (hp : Blk w p 68 #[.slice ta l.length tc]) (hq : Blk w q 77 (cOW o)) : Calls Tryz.prog 141 #[.agg cs.toArray, .pointer (some ⟨p, 0, none⟩), .pointer (some ⟨q, 0, none⟩)] w fun e w' => e = .returned (.bool (valB l o v)) ∧ Below w.heap.size w w' := by
  have HV := hid fun W (hW : Below w.heap.size w W) => valIsTypedM W l ta tc (h.kept hW) o hr Z d cs v (hv.kept hW)
  obtain ⟨ba, bc, ma, mc, rfl, -⟩ := val_open hv
  clear h hr hv
  unfold cOW at hq
  have x1 := hp.cellF
  have z1 := hp.lt
  have x2 := hq.cellF
  have z2 := hq.lt
  go_enter Tryz.func141, Tryz.ntmps141
  go_wp2_with fail
  refine (HV.out _ (by exact blBy)).mono ?_
  rintro e w1 ⟨rfl, hb1⟩
  have hbz : Hid (Below w.heap.size w w1) := hid (bl_then (by exact blBy) hb1)
  clear hb1
  go_wp2
  go_ret
  exact ⟨rfl, hbz.out⟩
theorem keyFn (w : World) (o : FT) (Z : Nat → Prop) (d : Nat) (cs : List Value) (v : CV CM) (hv : ValE w Z (MsgE w Z d) cs v) (q : Nat) (hq : Blk w q 77 (cOW o)) : Calls Tryz.prog 143 #[.agg cs.toArray, .pointer (some ⟨q, 0, none⟩)] w fun e w' => e = .returned (.bool (scalarB o.key v)) ∧ Below w.heap.size w w' := by
  have HV := hid fun W (hW : Below w.heap.size w W) => isScalarM W Z d o.key cs v (hv.kept hW)
  obtain ⟨ba, bc, ma, mc, rfl, -⟩ := val_open hv
  clear hv
  unfold cOW at hq
  have x2 := hq.cellF
  have z2 := hq.lt
  go_enter Tryz.func143, Tryz.ntmps143
  go_wp2_with fail
  refine (HV.out _ (by exact blBy)).mono ?_
  rintro e w1 ⟨rfl, hb1⟩
  have hbz : Hid (Below w.heap.size w w1) := hid (bl_then (by exact blBy) hb1)
  clear hb1
  go_wp2
  go_ret
  exact ⟨rfl, hbz.out⟩
theorem cfVal (args : Array Value) (W : World) : (callFunc 141 args).run Tryz.prog W = .ok (.enter 141 args) W := cf_enter Tryz.func141 (by kernel_rfl) (by kernel_rfl) args W
theorem cfKey (args : Array Value) (W : World) : (callFunc 143 args).run Tryz.prog W = .ok (.enter 143 args) W := cf_enter Tryz.func143 (by kernel_rfl) (by kernel_rfl) args W
set_option maxHeartbeats 2000000
set_option maxHeartbeats 1000000
/-- Old memory, but for v's own block. -/
def ZofA (w : World) (Y : Nat → Prop) (v : Value) (b : Nat) : Prop := Y b ∧ b < w.heap.size ∧ v.ownBlock ≠ some b
/-- A row of one's own, each struct as E says, in other memory. -/
def OwnA {α : Type} (w : World) (base : Nat) (Y : Nat → Prop) (t : TypeId) (k : Nat) (E : World → (Nat → Prop) → List Value → α → Prop) (v : Value) (xs : List α) : Prop :=
  ∃ ts : List (Tup k), w.ownsRow base t k v xs.length (ts.flatMap Subtype.val) ∧ ts.length = xs.length ∧ ∀ (i : Nat) (t : Tup k) (x : α), ts[i]? = some t → xs[i]? = some x → E w (ZofA w Y v) t.1 x
theorem OwnA.nil {α : Type} (w : World) (base : Nat) (Y : Nat → Prop) (t : TypeId) (k : Nat) (E : World → (Nat → Prop) → List Value → α → Prop) : OwnA w base Y t k E (.slice none 0 0) [] := ⟨[], World.ownsRow_nil _ _ _ _, rfl, fun i t x ht => by simp at ht⟩
theorem OwnA.shape {α : Type} {w : World} {base : Nat} {Y : Nat → Prop} {t : TypeId} {k : Nat} {E : World → (Nat → Prop) → List Value → α → Prop} {v : Value} {xs : List α} (h : OwnA w base Y t k E v xs) : ∃ a c, v = .slice a xs.length c := by
  obtain ⟨ts, h1, _⟩ := h
  exact own_shape h1
theorem OwnA.own {α : Type} {w : World} {base : Nat} {Y : Nat → Prop} {t : TypeId} {k : Nat} {E : World → (Nat → Prop) → List Value → α → Prop} {v : Value} {xs : List α} (h : OwnA w base Y t k E v xs) {b : Nat} (hb : v.ownBlock = some b) : base ≤ b ∧ b < w.heap.size := by
  obtain ⟨ts, h1, _⟩ := h
  have := own_type h1 hb
  exact ⟨this.1, this.2.1⟩
theorem OwnA.kept {α : Type} {w w' : World} {base : Nat} {Y : Nat → Prop} {t : TypeId} {k : Nat} {E : World → (Nat → Prop) → List Value → α → Prop} (F : Fam k E) {v : Value} {xs : List α} (h : OwnA w base Y t k E v xs) (hb : Below w.heap.size w w') : OwnA w' base Y t k E v xs := by
  obtain ⟨ts, h1, h2, h3⟩ := h
  exact ⟨ts, own_kept h1 hb, h2, fun i t x ht hx => F.go (h3 i t x ht hx) (keepT hb) (fun _ _ => trivial) (fun b hz => ⟨hz.1, Nat.lt_of_lt_of_le hz.2.1 hb.size, hz.2.2⟩)⟩
theorem OwnA.row {α : Type} {w : World} {base : Nat} {Y : Nat → Prop} {t : TypeId} {k : Nat} {E : World → (Nat → Prop) → List Value → α → Prop} (F : Fam k E) {v : Value} {xs : List α} (h : OwnA w base Y t k E v xs) (hn : xs.length ≤ 4000000) : RowM w (fun b => Y b ∨ base ≤ b) k (E w (fun b => Y b ∨ base ≤ b)) v xs := by
  obtain ⟨ts, h1, h2, h3⟩ := h
  exact ⟨ts, own_row h1 (fun b hb => Or.inr (own_type h1 hb).1), h2, hn, fun i t x ht hx => F.go (h3 i t x ht hx) (Keep.refl (fun _ => True) w) (fun _ _ => trivial) (fun b hz => Or.inl hz.1)⟩
/-- One struct more. -/
theorem OwnA.push {α : Type} {k : Nat} {E : World → (Nat → Prop) → List Value → α → Prop} (F : Fam k E) (t ts : TypeId) (bytes : Nat) (z : Value) (hts : Tryz.prog.underlying ts = some (.slice t)) (hinfo : (Tryz.prog.info? t).map (fun i => (i.zero, i.size, i.bytes)) = some (some z, k, bytes)) (hzs : z.cells.size = k) (h0 : 0 < k) (hby : bytes ≤ 400)
    {base : Nat} {Y : Nat → Prop} {v : Value} {xs : List α} {w : World} {cs : List Value} {x : α} (h : OwnA w base Y t k E v xs) (hx : E w (ZofA w Y v) cs x) (hb : base ≤ w.heap.size) (hn : xs.length ≤ 4000000) :
    ∃ a c w', Hid ((Builtin.append_ #[ts, ts] ts #[v, .slice (some ⟨w.heap.size, 0, none⟩) 1 1]).run Tryz.prog (w.alloc (.cells cs.toArray t)) = .ok (.slice a (xs.length + 1) c) w') ∧ Hid (OwnA w' base Y t k E (.slice a (xs.length + 1) c) (xs ++ [x])) ∧ Hid (Grow w w' v (.slice a (xs.length + 1) c)) := by
  obtain ⟨us, h1, h2, h3⟩ := h
  obtain ⟨v', w', r1, r2, r3⟩ := append_st t ts k bytes z hts hinfo hzs h0 hby base v xs.length (us.flatMap Subtype.val) w cs.toArray (by simp [F.len hx]) (by simpa using F.one hx) h1 hb hn
  obtain ⟨a, c, rfl⟩ := own_shape r2
  refine ⟨a, c, w', hid r1, hid ⟨us ++ [⟨cs, F.len hx⟩], ?_, by simp [h2], ?_⟩, hid r3⟩
  · rw [List.length_append, List.flatMap_append]
    simpa using r2
  · have hz : ∀ b, ZofA w Y v b → ZofA w' Y (.slice a (xs.length + 1) c) b := fun b hzb => by
      refine ⟨hzb.1, Nat.lt_of_lt_of_le hzb.2.1 r3.size, ?_⟩
      intro e
      rcases r3.own with q | q
      · rw [q] at e; exact hzb.2.2 e
      · have := q b e; have := hzb.2.1; omega
    have hk : Keep (fun b => v.ownBlock ≠ some b) w w' := Keep.ofGrow r3 (fun _ hk => hk)
    intro i u y hu hy
    by_cases hi : i < us.length
    · rw [List.getElem?_append_left hi] at hu
      rw [List.getElem?_append_left (by omega)] at hy
      exact F.go (h3 i u y hu hy) hk (fun b hz => hz.2.2) hz
    · have ei : i = us.length := by
        have := (List.getElem?_eq_some_iff.1 hu).1
        simp at this
        omega
      subst ei
      rw [List.getElem?_append_right (Nat.le_refl _), Nat.sub_self] at hu
      rw [h2, List.getElem?_append_right (Nat.le_refl _), Nat.sub_self] at hy
      simp at hu hy
      subst hu hy
      exact F.go hx hk (fun b hz => hz.2.2) hz
theorem OwnA.bel {α : Type} {w w' : World} {base : Nat} {Y : Nat → Prop} {t : TypeId} {k : Nat} {E : World → (Nat → Prop) → List Value → α → Prop} {v v' : Value} {xs : List α} (h : OwnA w base Y t k E v xs) (g : Grow w w' v v') {B : Nat} (hB : B ≤ base) (hs : B ≤ w.heap.size) : Below B w w' := g.below hs (fun b hb => Nat.le_trans hB (h.own hb).1)
theorem zofA_old {α : Type} {w w1 w2 : World} {Z : Nat → Prop} {t : TypeId} {k : Nat} {E : World → (Nat → Prop) → List Value → α → Prop} (F : Fam k E) {v : Value} {xs : List α} (h : OwnA w1 w.heap.size Z t k E v xs) {cs : List Value} {x : α} (hx : E w Z cs x) (hb : Below w.heap.size w w2) : E w2 (ZofA w2 Z v) cs x :=
  F.go (F.old hx) (keepT hb) (fun _ _ => trivial) (fun b hz => ⟨hz.1, Nat.lt_of_lt_of_le hz.2 hb.size, fun e => by have := (h.own e).1; have := hz.2; omega⟩)
theorem fl_le {α : Type} {xs : List α} {P : α → Bool} (h : xs.length ≤ 4000000) : (xs.filter P).length ≤ 4000000 := Nat.le_trans (List.length_filter_le _ _) h
theorem fl_len {α : Type} {xs : List α} {P : α → Bool} (h : xs.length ≤ 4000000) (j : Nat) : ((xs.take j).filter P).length ≤ 4000000 := Nat.le_trans (List.length_filter_le _ _) (by rw [List.length_take]; omega)
theorem RowM.el {α : Type} {w : World} {Z : Nat → Prop} {k : Nat} {E : List Value → α → Prop} {v : Value} {xs : List α} (h : RowM w Z k E v xs) (hk : 0 < k) {i : Nat} (hi : i < xs.length) {cs : List Value} (hl : cs.length = k) {a : Option Addr} {n c b o : Nat} (ev : v = .slice a n c) (ea : a = some ⟨b, o, none⟩) (hc : ∀ j u, cs[j]? = some u → w.cell? ⟨b, o + i * k + j, none⟩ = some u) : E cs xs[i] := by
  subst ev
  obtain ⟨b', o', cs', e, -, -, hl', he, hc'⟩ := RowM.at h hk hi
  rw [ea] at e
  cases e
  have : cs = cs' := by
    apply List.ext_getElem?
    intro j
    by_cases hj : j < k
    · have e1 := hc j _ (List.getElem?_eq_getElem (show j < cs.length by omega))
      have e2 := hc' j _ (List.getElem?_eq_getElem (show j < cs'.length by omega))
      rw [e1] at e2
      rw [List.getElem?_eq_getElem (show j < cs.length by omega), List.getElem?_eq_getElem (show j < cs'.length by omega)]
      exact e2
    · rw [List.getElem?_eq_none (by omega), List.getElem?_eq_none (by omega)]
  rw [this]
  exact he
theorem chosenF (w : World) (Z : Nat → Prop) (d : Nat) (xs : List (CF CM)) (a : Option Addr) (c : Nat) (h : FlsR w Z d (.slice a xs.length c) xs) (fn : FuncId) (caps : Array Value) (hcf : ∀ (args : Array Value) (W : World), (callFunc fn args).run Tryz.prog W = .ok (.enter fn args) W) (P : CF CM → Bool)
    (hf : ∀ (W : World), Below w.heap.size w W → ∀ (cs : List Value) (x : CF CM), x ∈ xs → FmF d W Z cs x → Calls Tryz.prog fn (#[.agg cs.toArray] ++ caps) W fun e w' => e = .returned (.bool (P x)) ∧ Below W.heap.size W w') : Calls Tryz.prog 72 #[.slice a xs.length c, .func (.func fn) #[] caps] w fun e w' => ∃ a' c', e = .returned (.slice a' (xs.filter P).length c') ∧ RowM w' (fun b => Z b ∨ w.heap.size ≤ b) 3 (FmF d w' (fun b => Z b ∨ w.heap.size ≤ b)) (.slice a' (xs.filter P).length c') (xs.filter P) ∧ Below w.heap.size w w' := by
  obtain ⟨_, _, e1, l1⟩ := RowM.sl h
  clear e1
  have m1 : (xs.length : Int) ≤ 9223372036854775807 := by omega
  have H1 := hid h
  have HF := hid hf
  clear h hf
  go_enter Tryz.func72, Tryz.ntmps72
  go_wp2
  go_loopw [5, 10] (fun s5 s10 wr => ∃ (j n : Nat) (oa : Option Addr) (oc : Nat), s5 = .slice oa n oc ∧ s10 = .int .i64 j ∧ j ≤ xs.length ∧ Hid (((xs.take j).filter P).length = n) ∧ Hid (OwnA wr w.heap.size Z 29 3 (FmF d) (.slice oa n oc) ((xs.take j).filter P)) ∧ Hid (Below w.heap.size w wr)) (fun s5 s10 wr => xs.length - numAt wr s10)
  case atStart => exact ⟨0, 0, none, 0, rfl, rfl, by omega, hid rfl, hid (OwnA.nil _ _ _ _ _ _), hid (Below.refl _ _)⟩
  case round =>
    obtain ⟨j, n, oa, oc, rfl, rfl, hj, HLN, HO, hb⟩ := hrel
    by_cases hlt : j < xs.length
    · have k2 : (j : Int) < (xs.length : Int) := by omega
      obtain ⟨b1, o1, ka1, kc1, va1, vc1, rfl, -, hb1, c0, c1, c2, he⟩ := fls_at H1.out hlt
      have HE := hid he
      have HTK : Hid ((xs.take (j + 1)).filter P = (xs.take j).filter P ++ (if P xs[j] = true then [xs[j]] else [])) := hid (by rw [List.take_succ_eq_append_getElem hlt, List.filter_append]; simp only [List.filter_cons, List.filter_nil])
      have HME := hid (List.getElem_mem hlt)
      have HLB : Hid (n ≤ 4000000) := hid (by rw [← HLN.out]; exact fl_len l1 j)
      replace c0 := cell_below c0 hb.out
      replace c1 := cell_below c1 hb.out
      replace c2 := cell_below c2 hb.out
      replace hb1 : b1 < wr.heap.size := World.block_lt_of_cell? _ _ c0
      clear he
      generalize xs[j] = x at *
      go_wp2_with fail
      refine (HF.out _ (by have := hb.out; exact blBy) [.int .i64 x.num, .slice ka1 x.ks.length kc1, .slice va1 x.vs.length vc1] x HME.out (Fam.go (famF d) HE.out (keepT (by have := hb.out; exact blBy)) (fun _ _ => trivial) (fun _ h => h))).mono ?_
      rintro e w1 ⟨rfl, hbx⟩
      have Bx : Blk w1 wr.heap.size 29 #[.int .i64 x.num, .slice ka1 x.ks.length kc1, .slice va1 x.vs.length vc1] := (Blk.new _ _ _).kept hbx
      have HO1 := hid (HO.out.kept (famF d) (below_trans (below_alloc _) hbx))
      have hbw : Hid (Below w.heap.size w w1) := hid (bl_then (by have := hb.out; exact blBy) hbx)
      clear hbx HO c0 c1 c2
      cases hq : P x with
      | false =>
        rw [hq, if_neg (by simp), List.append_nil] at HTK
        go_wp2
        exact ⟨⟨j + 1, n, oa, oc, rfl, by simp, by omega, hid (by rw [HTK.out]; exact HLN.out), hid (by rw [HTK.out]; exact HO1.out), hbw⟩, by simp [numAt]; omega⟩
      | true =>
        rw [hq, if_pos rfl] at HTK
        have HZ : Hid (FmF d w1 (ZofA w1 Z (.slice oa n oc)) [.int .i64 x.num, .slice ka1 x.ks.length kc1, .slice va1 x.vs.length vc1] x) := hid (zofA_old (famF d) HO1.out HE.out hbw.out)
        obtain ⟨la, lc, x1, HRUN, HO2, HG⟩ := OwnA.push (famF d) 29 32 56 (.agg #[.int .i64 0, .slice none 0 0, .slice none 0 0]) Tryz.underlying32 Tryz.infoF rfl (by decide) (by decide) HO1.out HZ.out hbw.out.size (by rw [HLN.out]; exact HLB.out)
        rw [HLN.out] at HRUN HO2 HG
        have hb2 : Hid (Below w.heap.size w x1) := hid (hbw.out.trans (HO1.out.bel HG.out (Nat.le_refl _) hbw.out.size))
        have xx := Bx.cellF
        have zx := Bx.lt
        go_wp2_with (first | (at_builtin; refine wpList_append_ran rfl _ _ 32 32 rfl rfl _ _ (.slice la (n + 1) lc) x1 rfl rfl HRUN.out ?_))
        exact ⟨⟨j + 1, n + 1, la, lc, rfl, by simp, by omega, hid (by rw [HTK.out, List.length_append, HLN.out]; rfl), hid (by rw [HTK.out]; exact HO2.out), hb2⟩, by simp [numAt]; omega⟩
    · have k2 : ¬ (j : Int) < (xs.length : Int) := by omega
      have e1 : xs.take j = xs := List.take_of_length_le (by omega)
      rw [e1] at HO HLN
      have HRW := hid (HO.out.row (famF d) (fl_le l1))
      rw [← HLN.out] at HRW ⊢
      clear e1 HLN HO
      go_wp2
      go_ret
      exact ⟨oa, oc, rfl, HRW.out, hb.out⟩
theorem chosenE (w : World) (Z : Nat → Prop) (xs : List (CE)) (a : Option Addr) (c : Nat) (h : EnsR w Z (.slice a xs.length c) xs) (fn : FuncId) (caps : Array Value) (hcf : ∀ (args : Array Value) (W : World), (callFunc fn args).run Tryz.prog W = .ok (.enter fn args) W) (P : CE → Bool)
    (hf : ∀ (W : World), Below w.heap.size w W → ∀ (cs : List Value) (x : CE), x ∈ xs → FmE W Z cs x → Calls Tryz.prog fn (#[.agg cs.toArray] ++ caps) W fun e w' => e = .returned (.bool (P x)) ∧ Below W.heap.size W w') : Calls Tryz.prog 73 #[.slice a xs.length c, .func (.func fn) #[] caps] w fun e w' => ∃ a' c', e = .returned (.slice a' (xs.filter P).length c') ∧ RowM w' (fun b => Z b ∨ w.heap.size ≤ b) 4 (FmE w' (fun b => Z b ∨ w.heap.size ≤ b)) (.slice a' (xs.filter P).length c') (xs.filter P) ∧ Below w.heap.size w w' := by
  obtain ⟨_, _, e1, l1⟩ := RowM.sl h
  clear e1
  have m1 : (xs.length : Int) ≤ 9223372036854775807 := by omega
  have H1 := hid h
  have HF := hid hf
  clear h hf
  go_enter Tryz.func73, Tryz.ntmps73
  go_wp2
  go_loopw [5, 10] (fun s5 s10 wr => ∃ (j n : Nat) (oa : Option Addr) (oc : Nat), s5 = .slice oa n oc ∧ s10 = .int .i64 j ∧ j ≤ xs.length ∧ Hid (((xs.take j).filter P).length = n) ∧ Hid (OwnA wr w.heap.size Z 40 4 (FmE) (.slice oa n oc) ((xs.take j).filter P)) ∧ Hid (Below w.heap.size w wr)) (fun s5 s10 wr => xs.length - numAt wr s10)
  case atStart => exact ⟨0, 0, none, 0, rfl, rfl, by omega, hid rfl, hid (OwnA.nil _ _ _ _ _ _), hid (Below.refl _ _)⟩
  case round =>
    obtain ⟨j, n, oa, oc, rfl, rfl, hj, HLN, HO, hb⟩ := hrel
    by_cases hlt : j < xs.length
    · have k2 : (j : Int) < (xs.length : Int) := by omega
      obtain ⟨b1, o1, ka1, kc1, rfl, -, hb1, c0, c1, c2, c3, he⟩ := ens_at H1.out hlt
      have HE := hid he
      have HTK : Hid ((xs.take (j + 1)).filter P = (xs.take j).filter P ++ (if P xs[j] = true then [xs[j]] else [])) := hid (by rw [List.take_succ_eq_append_getElem hlt, List.filter_append]; simp only [List.filter_cons, List.filter_nil])
      have HME := hid (List.getElem_mem hlt)
      have HLB : Hid (n ≤ 4000000) := hid (by rw [← HLN.out]; exact fl_len l1 j)
      replace c0 := cell_below c0 hb.out
      replace c1 := cell_below c1 hb.out
      replace c2 := cell_below c2 hb.out
      replace c3 := cell_below c3 hb.out
      replace hb1 : b1 < wr.heap.size := World.block_lt_of_cell? _ _ c0
      clear he
      generalize xs[j] = x at *
      go_wp2_with fail
      refine (HF.out _ (by have := hb.out; exact blBy) [.int .i64 x.num, .int .i64 x.kind, .int .u64 x.n, .slice ka1 x.b.length kc1] x HME.out (Fam.go (famE) HE.out (keepT (by have := hb.out; exact blBy)) (fun _ _ => trivial) (fun _ h => h))).mono ?_
      rintro e w1 ⟨rfl, hbx⟩
      have Bx : Blk w1 wr.heap.size 40 #[.int .i64 x.num, .int .i64 x.kind, .int .u64 x.n, .slice ka1 x.b.length kc1] := (Blk.new _ _ _).kept hbx
      have HO1 := hid (HO.out.kept (famE) (below_trans (below_alloc _) hbx))
      have hbw : Hid (Below w.heap.size w w1) := hid (bl_then (by have := hb.out; exact blBy) hbx)
      clear hbx HO c0 c1 c2 c3
      cases hq : P x with
      | false =>
        rw [hq, if_neg (by simp), List.append_nil] at HTK
        go_wp2
        exact ⟨⟨j + 1, n, oa, oc, rfl, by simp, by omega, hid (by rw [HTK.out]; exact HLN.out), hid (by rw [HTK.out]; exact HO1.out), hbw⟩, by simp [numAt]; omega⟩
      | true =>
        rw [hq, if_pos rfl] at HTK
        have HZ : Hid (FmE w1 (ZofA w1 Z (.slice oa n oc)) [.int .i64 x.num, .int .i64 x.kind, .int .u64 x.n, .slice ka1 x.b.length kc1] x) := hid (zofA_old (famE) HO1.out HE.out hbw.out)
        obtain ⟨la, lc, x1, HRUN, HO2, HG⟩ := OwnA.push (famE) 40 33 48 (.agg #[.int .i64 0, .int .i64 0, .int .u64 0, .slice none 0 0]) Tryz.underlying33 Tryz.infoE rfl (by decide) (by decide) HO1.out HZ.out hbw.out.size (by rw [HLN.out]; exact HLB.out)
        rw [HLN.out] at HRUN HO2 HG
        have hb2 : Hid (Below w.heap.size w x1) := hid (hbw.out.trans (HO1.out.bel HG.out (Nat.le_refl _) hbw.out.size))
        have xx := Bx.cellF
        have zx := Bx.lt
        go_wp2_with (first | (at_builtin; refine wpList_append_ran rfl _ _ 33 33 rfl rfl _ _ (.slice la (n + 1) lc) x1 rfl rfl HRUN.out ?_))
        exact ⟨⟨j + 1, n + 1, la, lc, rfl, by simp, by omega, hid (by rw [HTK.out, List.length_append, HLN.out]; rfl), hid (by rw [HTK.out]; exact HO2.out), hb2⟩, by simp [numAt]; omega⟩
    · have k2 : ¬ (j : Int) < (xs.length : Int) := by omega
      have e1 : xs.take j = xs := List.take_of_length_le (by omega)
      rw [e1] at HO HLN
      have HRW := hid (HO.out.row (famE) (fl_le l1))
      rw [← HLN.out] at HRW ⊢
      clear e1 HLN HO
      go_wp2
      go_ret
      exact ⟨oa, oc, rfl, HRW.out, hb.out⟩
theorem everyF (w : World) (Z : Nat → Prop) (d : Nat) (xs : List (CF CM)) (a : Option Addr) (c : Nat) (h : FlsR w Z d (.slice a xs.length c) xs) (fn : FuncId) (caps : Array Value) (hcf : ∀ (args : Array Value) (W : World), (callFunc fn args).run Tryz.prog W = .ok (.enter fn args) W) (P : CF CM → Bool)
    (hf : ∀ (W : World), Below w.heap.size w W → ∀ (cs : List Value) (x : CF CM), x ∈ xs → FmF d W Z cs x → Calls Tryz.prog fn (#[.agg cs.toArray] ++ caps) W fun e w' => e = .returned (.bool (P x)) ∧ Below W.heap.size W w') : Calls Tryz.prog 114 #[.slice a xs.length c, .func (.func fn) #[] caps] w fun e w' => e = .returned (.bool (xs.all P)) ∧ Below w.heap.size w w' := by
  obtain ⟨_, _, e1, l1⟩ := RowM.sl h
  clear e1
  have m1 : (xs.length : Int) ≤ 9223372036854775807 := by omega
  have H1 := hid h
  have HF := hid hf
  clear h hf
  go_enter Tryz.func114, Tryz.ntmps114
  go_wp2
  go_loopw [9] (fun s9 wr => ∃ j : Nat, s9 = .int .i64 j ∧ j ≤ xs.length ∧ Hid (xs.all P = (xs.drop j).all P) ∧ Hid (Below w.heap.size w wr)) (fun s9 wr => xs.length - numAt wr s9)
  case atStart => exact ⟨0, rfl, by omega, hid rfl, hid (Below.refl _ _)⟩
  case round =>
    obtain ⟨j, rfl, hj, HA, hb⟩ := hrel
    by_cases hlt : j < xs.length
    · have k2 : (j : Int) < (xs.length : Int) := by omega
      obtain ⟨b1, o1, ka1, kc1, va1, vc1, rfl, -, hb1, c0, c1, c2, he⟩ := fls_at (H1.out.kept hb.out) hlt
      have HE := hid he
      have HD : Hid ((xs.drop j).all P = (P xs[j] && (xs.drop (j + 1)).all P)) := hid (by rw [List.drop_eq_getElem_cons hlt, List.all_cons])
      have HME := hid (List.getElem_mem hlt)
      clear he
      generalize xs[j] = x at *
      go_wp2_with fail
      refine (HF.out _ (by have := hb.out; exact blBy) [.int .i64 x.num, .slice ka1 x.ks.length kc1, .slice va1 x.vs.length vc1] x HME.out (Fam.go (famF d) HE.out (keepT (below_alloc _)) (fun _ _ => trivial) (fun _ h => h))).mono ?_
      rintro e w1 ⟨rfl, hbx⟩
      have hbw : Hid (Below w.heap.size w w1) := hid (bl_then (by have := hb.out; exact blBy) hbx)
      clear hbx c0 c1 c2
      cases hq : P x with
      | false =>
        have HX : Hid (xs.all P = false) := hid (by rw [HA.out, HD.out, hq]; rfl)
        go_wp2
        go_ret
        exact ⟨ret_bool HX.out.symm, hbw.out⟩
      | true =>
        have HX : Hid (xs.all P = (xs.drop (j + 1)).all P) := hid (by rw [HA.out, HD.out, hq]; rfl)
        go_wp2
        exact ⟨⟨j + 1, by simp, by omega, HX, hbw⟩, by simp [numAt]; omega⟩
    · have k2 : ¬ (j : Int) < (xs.length : Int) := by omega
      have HX : Hid (xs.all P = true) := hid (by rw [HA.out, List.drop_of_length_le (by omega)]; rfl)
      go_wp2
      go_ret
      exact ⟨ret_bool HX.out.symm, hb.out⟩
theorem everyE (w : World) (Z : Nat → Prop) (xs : List (CE)) (a : Option Addr) (c : Nat) (h : EnsR w Z (.slice a xs.length c) xs) (fn : FuncId) (caps : Array Value) (hcf : ∀ (args : Array Value) (W : World), (callFunc fn args).run Tryz.prog W = .ok (.enter fn args) W) (P : CE → Bool)
    (hf : ∀ (W : World), Below w.heap.size w W → ∀ (cs : List Value) (x : CE), x ∈ xs → FmE W Z cs x → Calls Tryz.prog fn (#[.agg cs.toArray] ++ caps) W fun e w' => e = .returned (.bool (P x)) ∧ Below W.heap.size W w') : Calls Tryz.prog 116 #[.slice a xs.length c, .func (.func fn) #[] caps] w fun e w' => e = .returned (.bool (xs.all P)) ∧ Below w.heap.size w w' := by
  obtain ⟨_, _, e1, l1⟩ := RowM.sl h
  clear e1
  have m1 : (xs.length : Int) ≤ 9223372036854775807 := by omega
  have H1 := hid h
  have HF := hid hf
  clear h hf
  go_enter Tryz.func116, Tryz.ntmps116
  go_wp2
  go_loopw [9] (fun s9 wr => ∃ j : Nat, s9 = .int .i64 j ∧ j ≤ xs.length ∧ Hid (xs.all P = (xs.drop j).all P) ∧ Hid (Below w.heap.size w wr)) (fun s9 wr => xs.length - numAt wr s9)
  case atStart => exact ⟨0, rfl, by omega, hid rfl, hid (Below.refl _ _)⟩
  case round =>
    obtain ⟨j, rfl, hj, HA, hb⟩ := hrel
    by_cases hlt : j < xs.length
    · have k2 : (j : Int) < (xs.length : Int) := by omega
      obtain ⟨b1, o1, ka1, kc1, rfl, -, hb1, c0, c1, c2, c3, he⟩ := ens_at (H1.out.kept hb.out) hlt
      have HE := hid he
      have HD : Hid ((xs.drop j).all P = (P xs[j] && (xs.drop (j + 1)).all P)) := hid (by rw [List.drop_eq_getElem_cons hlt, List.all_cons])
      have HME := hid (List.getElem_mem hlt)
      clear he
      generalize xs[j] = x at *
      go_wp2_with fail
      refine (HF.out _ (by have := hb.out; exact blBy) [.int .i64 x.num, .int .i64 x.kind, .int .u64 x.n, .slice ka1 x.b.length kc1] x HME.out (Fam.go (famE) HE.out (keepT (below_alloc _)) (fun _ _ => trivial) (fun _ h => h))).mono ?_
      rintro e w1 ⟨rfl, hbx⟩
      have hbw : Hid (Below w.heap.size w w1) := hid (bl_then (by have := hb.out; exact blBy) hbx)
      clear hbx c0 c1 c2 c3
      cases hq : P x with
      | false =>
        have HX : Hid (xs.all P = false) := hid (by rw [HA.out, HD.out, hq]; rfl)
        go_wp2
        go_ret
        exact ⟨ret_bool HX.out.symm, hbw.out⟩
      | true =>
        have HX : Hid (xs.all P = (xs.drop (j + 1)).all P) := hid (by rw [HA.out, HD.out, hq]; rfl)
        go_wp2
        exact ⟨⟨j + 1, by simp, by omega, HX, hbw⟩, by simp [numAt]; omega⟩
    · have k2 : ¬ (j : Int) < (xs.length : Int) := by omega
      have HX : Hid (xs.all P = true) := hid (by rw [HA.out, List.drop_of_length_le (by omega)]; rfl)
      go_wp2
      go_ret
      exact ⟨ret_bool HX.out.symm, hb.out⟩
theorem everyV (w : World) (Z : Nat → Prop) (d : Nat) (xs : List (CV CM)) (a : Option Addr) (c : Nat) (h : VlsR w Z d (.slice a xs.length c) xs) (fn : FuncId) (caps : Array Value) (hcf : ∀ (args : Array Value) (W : World), (callFunc fn args).run Tryz.prog W = .ok (.enter fn args) W) (P : CV CM → Bool)
    (hf : ∀ (W : World), Below w.heap.size w W → ∀ (cs : List Value) (x : CV CM), x ∈ xs → FmV d W Z cs x → Calls Tryz.prog fn (#[.agg cs.toArray] ++ caps) W fun e w' => e = .returned (.bool (P x)) ∧ Below W.heap.size W w') : Calls Tryz.prog 146 #[.slice a xs.length c, .func (.func fn) #[] caps] w fun e w' => e = .returned (.bool (xs.all P)) ∧ Below w.heap.size w w' := by
  obtain ⟨_, _, e1, l1⟩ := RowM.sl h
  clear e1
  have m1 : (xs.length : Int) ≤ 9223372036854775807 := by omega
  have H1 := hid h
  have HF := hid hf
  clear h hf
  go_enter Tryz.func146, Tryz.ntmps146
  go_wp2
  go_loopw [9] (fun s9 wr => ∃ j : Nat, s9 = .int .i64 j ∧ j ≤ xs.length ∧ Hid (xs.all P = (xs.drop j).all P) ∧ Hid (Below w.heap.size w wr)) (fun s9 wr => xs.length - numAt wr s9)
  case atStart => exact ⟨0, rfl, by omega, hid rfl, hid (Below.refl _ _)⟩
  case round =>
    obtain ⟨j, rfl, hj, HA, hb⟩ := hrel
    by_cases hlt : j < xs.length
    · have k2 : (j : Int) < (xs.length : Int) := by omega
      obtain ⟨b1, o1, ka1, kc1, va1, vc1, rfl, -, hb1, c0, c1, c2, he⟩ := vls_at (H1.out.kept hb.out) hlt
      have HE := hid he
      have HD : Hid ((xs.drop j).all P = (P xs[j] && (xs.drop (j + 1)).all P)) := hid (by rw [List.drop_eq_getElem_cons hlt, List.all_cons])
      have HME := hid (List.getElem_mem hlt)
      clear he
      generalize xs[j] = x at *
      go_wp2_with fail
      refine (HF.out _ (by have := hb.out; exact blBy) [.int .u64 x.n, .slice ka1 x.b.length kc1, .slice va1 x.ms.length vc1] x HME.out (Fam.go (famV d) HE.out (keepT (below_alloc _)) (fun _ _ => trivial) (fun _ h => h))).mono ?_
      rintro e w1 ⟨rfl, hbx⟩
      have hbw : Hid (Below w.heap.size w w1) := hid (bl_then (by have := hb.out; exact blBy) hbx)
      clear hbx c0 c1 c2
      cases hq : P x with
      | false =>
        have HX : Hid (xs.all P = false) := hid (by rw [HA.out, HD.out, hq]; rfl)
        go_wp2
        go_ret
        exact ⟨ret_bool HX.out.symm, hbw.out⟩
      | true =>
        have HX : Hid (xs.all P = (xs.drop (j + 1)).all P) := hid (by rw [HA.out, HD.out, hq]; rfl)
        go_wp2
        exact ⟨⟨j + 1, by simp, by omega, HX, hbw⟩, by simp [numAt]; omega⟩
    · have k2 : ¬ (j : Int) < (xs.length : Int) := by omega
      have HX : Hid (xs.all P = true) := hid (by rw [HA.out, List.drop_of_length_le (by omega)]; rfl)
      go_wp2
      go_ret
      exact ⟨ret_bool HX.out.symm, hb.out⟩
theorem RowM.sub {α : Type} {w : World} {Z : Nat → Prop} {k : Nat} {E : List Value → α → Prop} {b o n c : Nat} {xs : List α} (h : RowM w Z k E (.slice (some ⟨b, o, none⟩) n c) xs) (hk : 0 < k) {i : Nat} (hi : i < xs.length) {c' : Nat} (h1 : 1 ≤ c') (h2 : c' ≤ 9223372036854775807) : RowM w Z k E (.slice (some ⟨b, o + i * k, none⟩) 1 c') [xs[i]] := by
  obtain ⟨b', o', cs, e, hz, -, hl, he, hc⟩ := RowM.at h hk hi
  cases e
  refine ⟨[⟨cs, hl⟩], ⟨_, _, rfl, by simp [hl], h1, h2, .inr ⟨b, o + i * k, rfl, hz, fun j u hu => hc j u (by simpa using hu)⟩⟩, rfl, by simp, fun j t x ht hx => ?_⟩
  have e0 : j = 0 := by
    have := (List.getElem?_eq_some_iff.1 ht).1
    simpa using this
  subst e0
  simp at ht hx
  subst ht hx
  exact he
theorem RowM.cap {α : Type} {w : World} {Z : Nat → Prop} {k : Nat} {E : List Value → α → Prop} {a : Option Addr} {n c : Nat} {xs : List α} (h : RowM w Z k E (.slice a n c) xs) : xs.length ≤ c ∧ c ≤ 9223372036854775807 := by
  obtain ⟨ts, ⟨a', c', e, hv⟩, _⟩ := h
  cases e
  exact ⟨hv.le, hv.max⟩
set_option maxHeartbeats 2000000
set_option maxHeartbeats 1000000
/-- A field of a type, but for what its messages hold. -/
def fieldB (l : List TV) (o : FT) (f : CF CM) : Bool := shapeB o.lab f && (f.vs.all (valB l o) && (f.ks.all (scalarB o.key) && keysB o.key f.ks))
theorem fieldIsTypedM (w : World) (l : List TV) (ta : Option Addr) (tc : Nat) (h : TbR w (.slice ta l.length tc) l) (o : FT) (hr : 0 ≤ o.ref ∧ o.ref.toNat < l.length) (Z : Nat → Prop) (d : Nat) (cs : List Value) (f : CF CM) (hf : FldE w Z (MsgE w Z d) cs f) : Calls Tryz.prog 112 #[.agg #[.slice ta l.length tc], .agg (cOW o), .agg cs.toArray] w fun e w' => e = .returned (.bool (fieldB l o f)) ∧ Below w.heap.size w w' := by
  have HSH := hid fun W (hW : Below w.heap.size w W) => hasShapeM W Z d o.lab cs f (hf.kept hW)
  obtain ⟨ka, kc, va, vc, rfl, g1, g2, l1, l2, -⟩ := fld_open hf
  have HVA := hid fun W (hW : Below w.heap.size w W) (p q : Nat) (hp : Blk W p 68 #[.slice ta l.length tc]) (hq : Blk W q 77 (cOW o)) => everyV W Z d f.vs va vc (g2.kept hW) 141 #[.pointer (some ⟨p, 0, none⟩), .pointer (some ⟨q, 0, none⟩)] cfVal (valB l o) (fun W' hW' cs x hx hm => valFn W' l ta tc (h.kept (below_trans hW hW')) o hr Z d cs x hm p q (hp.kept hW') (hq.kept hW'))
  have HKA := hid fun W (hW : Below w.heap.size w W) (q : Nat) (hq : Blk W q 77 (cOW o)) => everyV W Z d f.ks ka kc (g1.kept hW) 143 #[.pointer (some ⟨q, 0, none⟩)] cfKey (scalarB o.key) (fun W' hW' cs x hx hm => keyFn W' o Z d cs x hm q (hq.kept hW'))
  have HKR := hid fun W (hW : Below w.heap.size w W) => keysRiseM W Z d o.key f.ks ka kc (g1.kept hW)
  have HX : Hid (fieldB l o f = (shapeB o.lab f && (f.vs.all (valB l o) && (f.ks.all (scalarB o.key) && keysB o.key f.ks)))) := hid rfl
  clear h hr hf g1 g2
  generalize fieldB l o f = res at *
  generalize shapeB o.lab f = s1 at *
  generalize f.vs.all (valB l o) = s2 at *
  generalize f.ks.all (scalarB o.key) = s3 at *
  generalize keysB o.key f.ks = s4 at *
  unfold cOW at *
  go_enter Tryz.func112, Tryz.ntmps112
  go_wp2_with fail
  refine (HSH.out _ (by exact blBy)).mono ?_
  rintro e w1 ⟨rfl, hb1⟩
  have Br : Hid (Blk w1 w.heap.size 68 #[.slice ta l.length tc]) := hid ((((Blk.new _ _ _).kept (below_alloc _)).kept (below_alloc _)).kept hb1)
  have Bo : Hid (Blk w1 (w.heap.size + 1) 77 #[.string (strOfNums o.name), .int .i64 o.num, .int .i64 o.kind, .int .i64 o.ref, .int .i64 o.lab, .int .i64 o.one, .int .i64 o.key]) := hid (((Blk.newAt (by simp)).kept (below_alloc _)).kept hb1)
  have Bf : Hid (Blk w1 (w.heap.size + 1 + 1) 29 #[.int .i64 f.num, .slice ka f.ks.length kc, .slice va f.vs.length vc]) := hid ((Blk.newAt (by simp)).kept hb1)
  have hbz : Hid (Below w.heap.size w w1) := hid (bl_then (by exact blBy) hb1)
  clear hb1
  have xo := Bo.out.cellF
  have zo := Bo.out.lt
  have xf := Bf.out.cellF
  have zf := Bf.out.lt
  cases s1 with
  | false =>
    rw [Bool.false_and] at HX
    go_wp2
    go_ret
    exact ⟨ret_bool HX.out.symm, hbz.out⟩
  | true =>
  rw [Bool.true_and] at HX
  go_wp2_with fail
  refine (HVA.out _ hbz.out _ _ Br.out Bo.out).mono ?_
  rintro e w2 ⟨rfl, hb2⟩
  replace Br := hid (Br.out.kept hb2)
  replace Bo := hid (Bo.out.kept hb2)
  replace Bf := hid (Bf.out.kept hb2)
  replace hbz : Hid (Below w.heap.size w w2) := hid (below_trans hbz.out hb2)
  clear hb2 xo zo xf zf
  have xo := Bo.out.cellF
  have zo := Bo.out.lt
  have xf := Bf.out.cellF
  have zf := Bf.out.lt
  cases s2 with
  | false =>
    rw [Bool.false_and] at HX
    go_wp2
    go_ret
    exact ⟨ret_bool HX.out.symm, hbz.out⟩
  | true =>
  rw [Bool.true_and] at HX
  go_wp2_with fail
  refine (HKA.out _ hbz.out _ Bo.out).mono ?_
  rintro e w3 ⟨rfl, hb3⟩
  replace Br := hid (Br.out.kept hb3)
  replace Bo := hid (Bo.out.kept hb3)
  replace Bf := hid (Bf.out.kept hb3)
  replace hbz : Hid (Below w.heap.size w w3) := hid (below_trans hbz.out hb3)
  clear hb3 xo zo xf zf
  have xo := Bo.out.cellF
  have zo := Bo.out.lt
  have xf := Bf.out.cellF
  have zf := Bf.out.lt
  cases s3 with
  | false =>
    rw [Bool.false_and] at HX
    go_wp2
    go_ret
    exact ⟨ret_bool HX.out.symm, hbz.out⟩
  | true =>
  rw [Bool.true_and] at HX
  go_wp2_with fail
  refine (HKR.out _ hbz.out).mono ?_
  rintro e w4 ⟨rfl, hb4⟩
  replace Br := hid (Br.out.kept hb4)
  replace Bo := hid (Bo.out.kept hb4)
  replace Bf := hid (Bf.out.kept hb4)
  replace hbz : Hid (Below w.heap.size w w4) := hid (below_trans hbz.out hb4)
  clear hb4 xo zo xf zf
  go_wp2
  go_ret
  exact ⟨ret_bool HX.out.symm, hbz.out⟩
/-- A field that is typed, by its number. -/
def typB8 (l : List TV) (fs : List FT) (f : CF CM) : Bool := hasF fs f.num && fieldB l (ownF fs f.num) f
theorem typFn (w : World) (l : List TV) (ta : Option Addr) (tc : Nat) (h : TbR w (.slice ta l.length tc) l) (hg : goodB l = true) (x : TV) (hx : x ∈ l) (Z : Nat → Prop) (d : Nat) (cs : List Value) (f : CF CM) (hf : FldE w Z (MsgE w Z d) cs f) (p q : Nat) (hp : Blk w p 66 (cTV x).toArray) (hq : Blk w q 68 #[.slice ta l.length tc]) : Calls Tryz.prog 111 #[.agg cs.toArray, .pointer (some ⟨p, 0, none⟩), .pointer (some ⟨q, 0, none⟩)] w fun e w' => e = .returned (.bool (typB8 l x.t.fs f)) ∧ Below w.heap.size w w' := by
  have HFT := hid fun W (hW : Below w.heap.size w W) (ho : hasF x.t.fs f.num = true) => fieldIsTypedM W l ta tc (h.kept hW) (ownF x.t.fs f.num) (by
    have hin : ownF x.t.fs f.num ∈ x.t.fs := by
      unfold ownF hasF at *
      cases e : x.t.fs.find? (fun o => o.num == f.num) with
      | none => rw [e] at ho; cases ho
      | some o => exact List.mem_of_find?_eq_some e
    exact good_refs hg hx hin) Z d cs f (hf.kept hW)
  have TX := h.ty x hx
  obtain ⟨ka, kc, va, vc, rfl, -⟩ := fld_open hf
  obtain ⟨ta1, tc1, ta2, tc2, ta3, tc3, ta4, tc4, e1, e2, e3, e4⟩ := shT_of TX
  have ecx : cTV x = [.string (strOfNums x.t.name), .bool x.t.enum, .slice ta1 x.t.fs.length tc1, .slice ta2 x.t.os.length tc2, .slice ta3 x.t.ss.length tc3, .slice ta4 x.t.rs.length tc4] := by unfold cTV; rw [e1, e2, e3, e4]
  rw [ecx] at hp
  have HFI := hid fun W (hW : Below w.heap.size w W) => findT x.t.fs f.num W ta1 tc1 (by rw [← e1]; exact (TX.kept hW).f) (good_rise hg hx).1 (good_rise hg hx).2
  have HX : Hid (typB8 l x.t.fs f = (hasF x.t.fs f.num && fieldB l (ownF x.t.fs f.num) f)) := hid rfl
  have HP := hid hp
  have HQ := hid hq
  have x1 := hp.cellF
  have z1 := hp.lt
  clear h hg hf TX e1 e2 e3 e4 ecx hx hp hq
  generalize typB8 l x.t.fs f = res at *
  generalize ownF x.t.fs f.num = o at *
  generalize hasF x.t.fs f.num = ok at *
  generalize fieldB l o f = s2 at *
  unfold tFT at HFI
  unfold cOW at HFT
  go_enter Tryz.func111, Tryz.ntmps111
  go_wp2_with fail
  refine (HFI.out _ (by exact blBy)).mono ?_
  rintro e w1 ⟨rfl, hb1⟩
  have Bf : Hid (Blk w1 w.heap.size 29 #[.int .i64 f.num, .slice ka f.ks.length kc, .slice va f.vs.length vc]) := hid ((Blk.new _ _ _).kept hb1)
  have hbz : Hid (Below w.heap.size w w1) := hid (bl_then (by exact blBy) hb1)
  clear hb1 x1 z1
  have Bq := HQ.out.kept hbz.out
  have x2 := Bq.cellF
  have z2 := Bq.lt
  have x3 := Bf.out.cellF
  have z3 := Bf.out.lt
  cases ok with
  | false =>
    rw [Bool.false_and] at HX
    go_wp2
    go_ret
    exact ⟨ret_bool HX.out.symm, by have := hbz.out; exact blBy⟩
  | true =>
  rw [Bool.true_and] at HX
  go_wp2_with fail
  refine (HFT.out _ (by have := hbz.out; exact blBy) (by first | exact trivial | rfl)).mono ?_
  rintro e w2 ⟨rfl, hb2⟩
  have hby : Hid (Below w.heap.size w w2) := hid (bl_then (by have := hbz.out; exact blBy) hb2)
  clear hb2
  go_wp2
  go_ret
  exact ⟨ret_bool HX.out.symm, hby.out⟩
theorem cfTyp (args : Array Value) (W : World) : (callFunc 111 args).run Tryz.prog W = .ok (.enter 111 args) W := cf_enter Tryz.func111 (by kernel_rfl) (by kernel_rfl) args W
/-- What hold asks of a message. -/
def holdB (l : List TV) (ent : CE → Bool) (x : TV) (m : CM) : Bool := riseM m.fs && (m.fs.all (typB8 l x.t.fs) && (singleB x.t.fs m.fs && m.us.all ent))
theorem cfEnt (args : Array Value) (W : World) : (callFunc 117 args).run Tryz.prog W = .ok (.enter 117 args) W := cf_enter Tryz.func117 (by kernel_rfl) (by kernel_rfl) args W
theorem holdM (w : World) (l : List TV) (ta : Option Addr) (tc : Nat) (h : TbR w (.slice ta l.length tc) l) (hg : goodB l = true) (x : TV) (hx : x ∈ l) (ho : ∀ o ∈ x.t.fs, o.lab = 4 → 0 ≤ o.one ∧ o.one < 128) (ent : CE → Bool) (Z : Nat → Prop) (hent : ∀ (W : World), Below w.heap.size w W → ∀ (cs : List Value) (y : CE), FmE W Z cs y → Calls Tryz.prog 117 #[.agg cs.toArray] W fun e w' => e = .returned (.bool (ent y)) ∧ Below W.heap.size W w') (d : Nat) (cs : List Value) (m : CM) (hm : MsgE w Z (d + 1) cs m) : Calls Tryz.prog 77 #[.agg #[.slice ta l.length tc], .agg (cTV x).toArray, .agg cs.toArray] w fun e w' => e = .returned (.bool (holdB l ent x m)) ∧ Below w.heap.size w w' := by
  obtain ⟨ka, kc, va, vc, rfl, g1, g2, l1, l2⟩ := msg_open hm
  have HRI := hid fun W (hW : Below w.heap.size w W) => doRiseM W Z d m.fs ka kc (g1.kept hW)
  have HTY := hid fun W (hW : Below w.heap.size w W) (p q : Nat) (hp : Blk W p 66 (cTV x).toArray) (hq : Blk W q 68 #[.slice ta l.length tc]) => everyF W Z d m.fs ka kc (g1.kept hW) 111 #[.pointer (some ⟨p, 0, none⟩), .pointer (some ⟨q, 0, none⟩)] cfTyp (typB8 l x.t.fs) (fun W' hW' cs f hf hm => typFn W' l ta tc (h.kept (below_trans hW hW')) hg x hx Z d cs f hm p q (hp.kept hW') (hq.kept hW'))
  have HSI := hid fun W (hW : Below w.heap.size w W) => areSingleM W x ((h.ty x hx).kept hW) (good_rise hg hx).1 (good_rise hg hx).2 ho Z d m.fs ka kc (g1.kept hW)
  have HEN := hid fun W (hW : Below w.heap.size w W) => everyE W Z m.us va vc (g2.kept hW) 117 #[] cfEnt ent (fun W' hW' cs y hy hm => hent W' (below_trans hW hW') cs y hm)
  have HX : Hid (holdB l ent x m = (riseM m.fs && (m.fs.all (typB8 l x.t.fs) && (singleB x.t.fs m.fs && m.us.all ent)))) := hid rfl
  obtain ⟨ta1, tc1, ta2, tc2, ta3, tc3, ta4, tc4, e1, e2, e3, e4⟩ := shT_of (h.ty x hx)
  have ecx : cTV x = [.string (strOfNums x.t.name), .bool x.t.enum, .slice ta1 x.t.fs.length tc1, .slice ta2 x.t.os.length tc2, .slice ta3 x.t.ss.length tc3, .slice ta4 x.t.rs.length tc4] := by unfold cTV; rw [e1, e2, e3, e4]
  rw [ecx] at HTY HSI ⊢
  clear h hg hm g1 g2 hent ho ecx e1 e2 e3 e4 hx
  generalize holdB l ent x m = res at *
  generalize riseM m.fs = s1 at *
  generalize m.fs.all (typB8 l x.t.fs) = s2 at *
  generalize singleB x.t.fs m.fs = s3 at *
  generalize m.us.all ent = s4 at *
  go_enter Tryz.func77, Tryz.ntmps77
  go_wp2_with fail
  refine (HRI.out _ (by exact blBy)).mono ?_
  rintro e w1 ⟨rfl, hb1⟩
  have Br : Hid (Blk w1 w.heap.size 68 #[.slice ta l.length tc]) := hid ((((Blk.new _ _ _).kept (below_alloc _)).kept (below_alloc _)).kept hb1)
  have Bx : Hid (Blk w1 (w.heap.size + 1) 66 #[.string (strOfNums x.t.name), .bool x.t.enum, .slice ta1 x.t.fs.length tc1, .slice ta2 x.t.os.length tc2, .slice ta3 x.t.ss.length tc3, .slice ta4 x.t.rs.length tc4]) := hid (((Blk.newAt (by simp)).kept (below_alloc _)).kept hb1)
  have Bm : Hid (Blk w1 (w.heap.size + 1 + 1) 35 #[.slice ka m.fs.length kc, .slice va m.us.length vc]) := hid ((Blk.newAt (by simp)).kept hb1)
  have hbz : Hid (Below w.heap.size w w1) := hid (bl_then (by exact blBy) hb1)
  clear hb1
  have xo := Bx.out.cellF
  have zo := Bx.out.lt
  have xf := Bm.out.cellF
  have zf := Bm.out.lt
  cases s1 with
  | false =>
    rw [Bool.false_and] at HX
    go_wp2
    go_ret
    exact ⟨ret_bool HX.out.symm, by have := hbz.out; exact blBy⟩
  | true =>
  rw [Bool.true_and] at HX
  go_wp2_with fail
  refine (HTY.out _ hbz.out _ _ Bx.out Br.out).mono ?_
  rintro e w2 ⟨rfl, hb2⟩
  replace Br := hid (Br.out.kept hb2)
  replace Bx := hid (Bx.out.kept hb2)
  replace Bm := hid (Bm.out.kept hb2)
  replace hbz : Hid (Below w.heap.size w w2) := hid (below_trans hbz.out hb2)
  clear hb2 xo zo xf zf
  have xo := Bx.out.cellF
  have zo := Bx.out.lt
  have xf := Bm.out.cellF
  have zf := Bm.out.lt
  cases s2 with
  | false =>
    rw [Bool.false_and] at HX
    go_wp2
    go_ret
    exact ⟨ret_bool HX.out.symm, by have := hbz.out; exact blBy⟩
  | true =>
  rw [Bool.true_and] at HX
  go_wp2_with fail
  refine (HSI.out _ hbz.out).mono ?_
  rintro e w3 ⟨rfl, hb3⟩
  replace Br := hid (Br.out.kept hb3)
  replace Bx := hid (Bx.out.kept hb3)
  replace Bm := hid (Bm.out.kept hb3)
  replace hbz : Hid (Below w.heap.size w w3) := hid (below_trans hbz.out hb3)
  clear hb3 xo zo xf zf
  have xo := Bx.out.cellF
  have zo := Bx.out.lt
  have xf := Bm.out.cellF
  have zf := Bm.out.lt
  cases s3 with
  | false =>
    rw [Bool.false_and] at HX
    go_wp2
    go_ret
    exact ⟨ret_bool HX.out.symm, by have := hbz.out; exact blBy⟩
  | true =>
  rw [Bool.true_and] at HX
  go_wp2_with fail
  refine (HEN.out _ hbz.out).mono ?_
  rintro e w4 ⟨rfl, hb4⟩
  replace Br := hid (Br.out.kept hb4)
  replace Bx := hid (Bx.out.kept hb4)
  replace Bm := hid (Bm.out.kept hb4)
  replace hbz : Hid (Below w.heap.size w w4) := hid (below_trans hbz.out hb4)
  clear hb4 xo zo xf zf
  go_wp2
  go_ret
  exact ⟨ret_bool HX.out.symm, by have := hbz.out; exact blBy⟩
end Go.Proofs.YtnfdlnelfnigdaaGreatDoor
