/-
  The document's answer: is another member of a oneof there?
  Both answers of a value are one.
  The document's Typed: what it asks, field by field; and that this is what the program asks.
  Whether a message is normal.
  Settle: what the program answers, at every depth.
  Settle: what the program answers.
  Settle: what the program answers.
  Settle.
  Settling: what the document does to a field is what the program does; normal is: settling changes nothing.
  What is settled: it is typed, it stays, it is not deeper.
  A field put into a message: it is there, and put in again it changes nothing.
  Settling and setting: what the laws ask.
-/
import Derived.Test.YtgephggcgopfgaaGreatDoorCI
import Derived.Test.YtgephggcgopfgaaGreatDoorCCE
import Derived.Test.YtgephggcgopfgaaGreatDoorCw8WO
import Derived.Test.YtgephggcgopfgaaGreatDoorCAG
import Derived.Test.YtgephggcgopfgaaGreatDoorCNG
import Derived.Test.YtgephggcgopfgaaGreatDoorCTY
namespace Go.Proofs.YtgephggcgopfgaaGreatDoor
open Go.RowKit
set_option maxRecDepth 1000000
set_option linter.unusedVariables false
set_option linter.unusedSimpArgs false
set_option maxHeartbeats 2000000
theorem FlsR.old8 {w : World} {Z : Nat → Prop} {d : Nat} {v : Value} {xs : List (CF CM)} (h : FlsR w Z d v xs) : FlsR w (fun b => Z b ∧ b < w.heap.size) d v xs := RowM.old (by decide) h (fun cs x _ hx => (famF d).old hx)
theorem find_own (fs : List FT) (n : Int) : (fs.find? (fun f => decide (f.num = n))).getD ftZ = ownF fs n := by
  unfold ownF
  congr 2
theorem find_has (fs : List FT) (n : Int) : (fs.find? (fun f => decide (f.num = n))).isSome = hasF fs n := by
  unfold hasF
  congr 2
def othP (fs : List FT) (f : FT) (x : CF CM) : Bool := hasF fs x.num && (((ownF fs x.num).lab == 4) && (((ownF fs x.num).one == f.one) && ((ownF fs x.num).num != f.num)))
theorem otherD (w : World) (l : List TV) (ta : Option Addr) (tc : Nat) (h : TbR w (.slice ta l.length tc) l) (i : Nat) (hi : i < l.length) (Z : Nat → Prop) (d : Nat) (cs : List Value) (m : CM) (hm : MsgE w Z (d + 1) cs m) (f : FT) : Calls Tryz.prog 51 #[.agg #[.slice ta l.length tc], .int .i64 (i : Int), .agg cs.toArray, .agg #[.string (strOfNums f.name), .int .i64 f.num, .int .i64 f.kind, .int .i64 f.ref, .int .i64 f.lab, .int .i64 f.one, .int .i64 f.key]] w fun e w' => e = .returned (.bool (m.fs.any (othP l[i].t.fs f))) ∧ Below w.heap.size w w' := by
  obtain ⟨a1, c1, a2, c2, rfl, g, -, l1, -⟩ := msg_open hm
  have m1 : (m.fs.length : Int) ≤ 9223372036854775807 := by omega
  have G := hid (FlsR.old8 g)
  have HFD : Hid (∀ (W : World) (n : Int), Below w.heap.size w W → Calls Tryz.prog 48 #[.agg #[.slice ta l.length tc], .int .i64 (i : Int), .int .i64 n] W fun e w' => e = .returned (.tuple #[.agg #[.string (strOfNums (ownF l[i].t.fs n).name), .int .i64 (ownF l[i].t.fs n).num, .int .i64 (ownF l[i].t.fs n).kind, .int .i64 (ownF l[i].t.fs n).ref, .int .i64 (ownF l[i].t.fs n).lab, .int .i64 (ownF l[i].t.fs n).one, .int .i64 (ownF l[i].t.fs n).key], .bool (hasF l[i].t.fs n)]) ∧ Below W.heap.size W w') := hid fun W n hW => by
    have := fieldDR W l ta tc (h.kept hW) i hi n
    rw [find_own, find_has] at this
    exact this
  generalize l[i].t.fs = fs at *
  clear h hm g hi
  go_enter Tryz.func51, Tryz.ntmps51
  go_wp2
  go_loopw [9] (fun s9 wr => ∃ (j : Nat), s9 = .int .i64 j ∧ j ≤ m.fs.length ∧ Hid (m.fs.any (othP fs f) = (m.fs.drop j).any (othP fs f)) ∧ Hid (Blk wr (w.heap.size) 46 #[.slice ta l.length tc]) ∧ Hid (Blk wr (w.heap.size + 1) 35 #[.slice a1 m.fs.length c1, .slice a2 m.us.length c2]) ∧ Hid (Blk wr (w.heap.size + 1 + 1) 82 #[.string (strOfNums f.name), .int .i64 f.num, .int .i64 f.kind, .int .i64 f.ref, .int .i64 f.lab, .int .i64 f.one, .int .i64 f.key]) ∧ Hid (Below w.heap.size w wr)) (fun s9 wr => m.fs.length - numAt wr s9)
  case atStart => exact ⟨0, rfl, by omega, hid rfl, hid (((Blk.new _ _ _).kept (below_alloc _)).kept (below_alloc _)), hid ((Blk.newAt (by simp)).kept (below_alloc _)), hid (Blk.newAt (by simp)), hid (by exact blBy)⟩
  case round =>
    obtain ⟨j, rfl, hj, HA, BT, BM, BF, hb⟩ := hrel
    have xt := BT.out.cellF
    have zt := BT.out.lt
    have xm := BM.out.cellF
    have zm := BM.out.lt
    have xf := BF.out.cellF
    have zf := BF.out.lt
    by_cases hlt : j < m.fs.length
    · have k2 : (j : Int) < (m.fs.length : Int) := by omega
      obtain ⟨b1, o1, pa, pc, qa, qc, rfl, hz1, hb1, c0, -, -, -⟩ := fls_at (G.out.kept hb.out) hlt
      have HD : Hid ((m.fs.drop j).any (othP fs f) = (othP fs f m.fs[j] || (m.fs.drop (j + 1)).any (othP fs f))) := hid (by rw [List.drop_eq_getElem_cons hlt, List.any_cons])
      generalize m.fs[j] = x at *
      have hbl := hz1.2
      have hsz := hb.out.size
      have HFX := hid fun W hW => HFD.out W x.num hW
      have HOP : Hid (othP fs f x = (hasF fs x.num && (((ownF fs x.num).lab == 4) && (((ownF fs x.num).one == f.one) && ((ownF fs x.num).num != f.num))))) := hid rfl
      generalize othP fs f x = op at *
      generalize ownF fs x.num = g at *
      generalize hasF fs x.num = ok at *
      have HSK : Hid (∀ W, Keep (· < wr.heap.size) wr W → (fun W => (∀ k, W.cell? ⟨w.heap.size, k, none⟩ = #[.slice ta l.length tc][k]?) ∧ (∀ k, W.cell? ⟨w.heap.size + 1, k, none⟩ = #[.slice (some ⟨b1, o1, none⟩) m.fs.length c1, .slice a2 m.us.length c2][k]?) ∧ W.cell? ⟨b1, o1 + j * 3, none⟩ = some (.int .i64 x.num)) W) := hid fun W hk => ⟨(BT.out.keep hk (show _ < _ by omega)).cellF, (BM.out.keep hk (show _ < _ by omega)).cellF, cell_kp c0 hk (show _ < _ by omega)⟩
      clear hz1
      go_upto_region 4 with fail
      clear xt zt xm zm xf zf
      go_region_held3 (fun W => (∀ k, W.cell? ⟨w.heap.size, k, none⟩ = #[.slice ta l.length tc][k]?) ∧ (∀ k, W.cell? ⟨w.heap.size + 1, k, none⟩ = #[.slice (some ⟨b1, o1, none⟩) m.fs.length c1, .slice a2 m.us.length c2][k]?) ∧ W.cell? ⟨b1, o1 + j * 3, none⟩ = some (.int .i64 x.num)) (exact HSK.out _ (by (with_reducible repeat (first | exact K1.out | exact Keep.refl _ _ | refine kpS ?_ (by first | (simp; done) | (simp; omega) | omega) | refine kpA ?_ _ | refine kpD ?_ | refine kpN ?_ _)))) ((go_at_call 48; refine (HFX.out _ (by have := hb.out; exact blBy)).mono ?_; rintro e u1 ⟨rfl, hbu⟩; (first | (have X1 : Hid (Blk u1 wr.heap.size 82 #[.string ⟨#[]⟩, .int .i64 0, .int .i64 0, .int .i64 0, .int .i64 0, .int .i64 0, .int .i64 0]) := hid (Blk.kept (by first | with_reducible exact (Blk.newAt (w := wr) rfl).kept (below_drew1 _) | with_reducible exact Blk.newAt (w := wr.drew) rfl) hbu); have xx1 := X1.out.cellF; have xy1 := X1.out.frz; have xz1 := X1.out.lt) | skip); have K1 : Hid (Keep (· < wr.heap.size) wr u1) := hid (Keep.trans (by (with_reducible repeat (first | exact K1.out | exact Keep.refl _ _ | refine kpS ?_ (by first | (simp; done) | (simp; omega) | omega) | refine kpA ?_ _ | refine kpD ?_ | refine kpN ?_ _))) (Keep.ofBelow hbu)); have hsu := hbu.size; (try simp at hsu); clear hbu))
      all_goals (
        have BF2 : Blk u1 (w.heap.size + 1 + 1) 82 #[.string (strOfNums f.name), .int .i64 f.num, .int .i64 f.kind, .int .i64 f.ref, .int .i64 f.lab, .int .i64 f.one, .int .i64 f.key] := BF.out.keep K1.out (show _ < _ from by have := BF.out.lt; exact this)
        have BM2 : Blk u1 (w.heap.size + 1) 35 #[.slice (some ⟨b1, o1, none⟩) m.fs.length c1, .slice a2 m.us.length c2] := BM.out.keep K1.out (show _ < _ from by have := BM.out.lt; exact this)
        have xf2 := BF2.cellF
        have zf2 := BF2.lt
        have xm2 := BM2.cellF
        have zm2 := BM2.lt
        have hlt1 := BT.out.lt
        have hlt2 := BM.out.lt
        have hlt3 := BF.out.lt
        have HRT : Hid (op = true → m.fs.any (othP fs f) = true) := hid (fun e => by rw [HA.out, HD.out, e]; rfl)
        have HRF : Hid (op = false → m.fs.any (othP fs f) = (m.fs.drop (j + 1)).any (othP fs f)) := hid (fun e => by rw [HA.out, HD.out, e]; rfl)
        clear HFD HFX HSK
        cases ok with
        | false =>
          have HR := hid (HRF.out (by rw [HOP.out]; rfl))
          clear HRT HRF HOP
          go_wp2
          exact ⟨⟨j + 1, by simp, by omega, HR, hid (BT.out.keep (show Keep (· < wr.heap.size) wr _ from by (with_reducible repeat (first | exact K1.out | exact Keep.refl _ _ | refine kpS ?_ (by first | (simp; done) | (simp; omega) | omega) | refine kpA ?_ _ | refine kpD ?_ | refine kpN ?_ _))) hlt1), hid (BM.out.keep (show Keep (· < wr.heap.size) wr _ from by (with_reducible repeat (first | exact K1.out | exact Keep.refl _ _ | refine kpS ?_ (by first | (simp; done) | (simp; omega) | omega) | refine kpA ?_ _ | refine kpD ?_ | refine kpN ?_ _))) hlt2), hid (BF.out.keep (show Keep (· < wr.heap.size) wr _ from by (with_reducible repeat (first | exact K1.out | exact Keep.refl _ _ | refine kpS ?_ (by first | (simp; done) | (simp; omega) | omega) | refine kpA ?_ _ | refine kpD ?_ | refine kpN ?_ _))) hlt3), hid (hb.out.trans ((show Keep (· < wr.heap.size) wr _ from by (with_reducible repeat (first | exact K1.out | exact Keep.refl _ _ | refine kpS ?_ (by first | (simp; done) | (simp; omega) | omega) | refine kpA ?_ _ | refine kpD ?_ | refine kpN ?_ _))).below hsz (fun k hk => by show k < wr.heap.size; omega)))⟩, by simp [numAt]; omega⟩
        | true =>
          cases e1 : (g.lab == 4) with
          | false =>
            have HR := hid (HRF.out (by rw [HOP.out, e1]; rfl))
            clear HRT HRF HOP
            go_wp2
            exact ⟨⟨j + 1, by simp, by omega, HR, hid (BT.out.keep (show Keep (· < wr.heap.size) wr _ from by (with_reducible repeat (first | exact K1.out | exact Keep.refl _ _ | refine kpS ?_ (by first | (simp; done) | (simp; omega) | omega) | refine kpA ?_ _ | refine kpD ?_ | refine kpN ?_ _))) hlt1), hid (BM.out.keep (show Keep (· < wr.heap.size) wr _ from by (with_reducible repeat (first | exact K1.out | exact Keep.refl _ _ | refine kpS ?_ (by first | (simp; done) | (simp; omega) | omega) | refine kpA ?_ _ | refine kpD ?_ | refine kpN ?_ _))) hlt2), hid (BF.out.keep (show Keep (· < wr.heap.size) wr _ from by (with_reducible repeat (first | exact K1.out | exact Keep.refl _ _ | refine kpS ?_ (by first | (simp; done) | (simp; omega) | omega) | refine kpA ?_ _ | refine kpD ?_ | refine kpN ?_ _))) hlt3), hid (hb.out.trans ((show Keep (· < wr.heap.size) wr _ from by (with_reducible repeat (first | exact K1.out | exact Keep.refl _ _ | refine kpS ?_ (by first | (simp; done) | (simp; omega) | omega) | refine kpA ?_ _ | refine kpD ?_ | refine kpN ?_ _))).below hsz (fun k hk => by show k < wr.heap.size; omega)))⟩, by simp [numAt]; omega⟩
          | true =>
            cases e2 : (g.one == f.one) with
            | false =>
              have HR := hid (HRF.out (by rw [HOP.out, e1, e2]; rfl))
              clear HRT HRF HOP
              go_wp2
              exact ⟨⟨j + 1, by simp, by omega, HR, hid (BT.out.keep (show Keep (· < wr.heap.size) wr _ from by (with_reducible repeat (first | exact K1.out | exact Keep.refl _ _ | refine kpS ?_ (by first | (simp; done) | (simp; omega) | omega) | refine kpA ?_ _ | refine kpD ?_ | refine kpN ?_ _))) hlt1), hid (BM.out.keep (show Keep (· < wr.heap.size) wr _ from by (with_reducible repeat (first | exact K1.out | exact Keep.refl _ _ | refine kpS ?_ (by first | (simp; done) | (simp; omega) | omega) | refine kpA ?_ _ | refine kpD ?_ | refine kpN ?_ _))) hlt2), hid (BF.out.keep (show Keep (· < wr.heap.size) wr _ from by (with_reducible repeat (first | exact K1.out | exact Keep.refl _ _ | refine kpS ?_ (by first | (simp; done) | (simp; omega) | omega) | refine kpA ?_ _ | refine kpD ?_ | refine kpN ?_ _))) hlt3), hid (hb.out.trans ((show Keep (· < wr.heap.size) wr _ from by (with_reducible repeat (first | exact K1.out | exact Keep.refl _ _ | refine kpS ?_ (by first | (simp; done) | (simp; omega) | omega) | refine kpA ?_ _ | refine kpD ?_ | refine kpN ?_ _))).below hsz (fun k hk => by show k < wr.heap.size; omega)))⟩, by simp [numAt]; omega⟩
            | true =>
              cases e3 : (g.num != f.num) with
              | false =>
                have HR := hid (HRF.out (by rw [HOP.out, e1, e2, e3]; rfl))
                clear HRT HRF HOP
                go_wp2
                exact ⟨⟨j + 1, by simp, by omega, HR, hid (BT.out.keep (show Keep (· < wr.heap.size) wr _ from by (with_reducible repeat (first | exact K1.out | exact Keep.refl _ _ | refine kpS ?_ (by first | (simp; done) | (simp; omega) | omega) | refine kpA ?_ _ | refine kpD ?_ | refine kpN ?_ _))) hlt1), hid (BM.out.keep (show Keep (· < wr.heap.size) wr _ from by (with_reducible repeat (first | exact K1.out | exact Keep.refl _ _ | refine kpS ?_ (by first | (simp; done) | (simp; omega) | omega) | refine kpA ?_ _ | refine kpD ?_ | refine kpN ?_ _))) hlt2), hid (BF.out.keep (show Keep (· < wr.heap.size) wr _ from by (with_reducible repeat (first | exact K1.out | exact Keep.refl _ _ | refine kpS ?_ (by first | (simp; done) | (simp; omega) | omega) | refine kpA ?_ _ | refine kpD ?_ | refine kpN ?_ _))) hlt3), hid (hb.out.trans ((show Keep (· < wr.heap.size) wr _ from by (with_reducible repeat (first | exact K1.out | exact Keep.refl _ _ | refine kpS ?_ (by first | (simp; done) | (simp; omega) | omega) | refine kpA ?_ _ | refine kpD ?_ | refine kpN ?_ _))).below hsz (fun k hk => by show k < wr.heap.size; omega)))⟩, by simp [numAt]; omega⟩
              | true =>
                have HR := hid (HRT.out (by rw [HOP.out, e1, e2, e3]; rfl))
                clear HRT HRF HOP
                go_wp2
                go_ret
                exact ⟨ret_bool HR.out.symm, hb.out.trans ((show Keep (· < wr.heap.size) wr _ from by (with_reducible repeat (first | exact K1.out | exact Keep.refl _ _ | refine kpS ?_ (by first | (simp; done) | (simp; omega) | omega) | refine kpA ?_ _ | refine kpD ?_ | refine kpN ?_ _))).below hsz (fun k hk => by show k < wr.heap.size; omega))⟩)
    · have k2 : ¬ (j : Int) < (m.fs.length : Int) := by omega
      have HE : Hid (m.fs.any (othP fs f) = false) := hid (by rw [HA.out, List.drop_of_length_le (by omega)]; rfl)
      go_wp2
      go_ret
      exact ⟨ret_bool HE.out.symm, hb.out⟩
theorem sym_one {n : Int} (hn : U64 n) {s : SY} (hs : I64 s.num) : syN (IntKind.i64.wrap n) s = symN n s := by
  unfold syN symN
  rw [IntKind.wrap_i64]
  obtain ⟨h0, h1⟩ := hn
  obtain ⟨h2, h3⟩ := hs
  rw [Bool.eq_iff_iff]
  simp only [decide_eq_true_eq, beq_iff_eq]
  omega
theorem sym_all {n : Int} (hn : U64 n) : ∀ {ss : List SY}, (∀ s ∈ ss, I64 s.num) → (ss.find? (syN (IntKind.i64.wrap n))).isSome = ss.any (symN n)
  | [], _ => rfl
  | s :: r, h => by
    rw [List.find?_cons, List.any_cons, sym_one hn (h s List.mem_cons_self)]
    cases symN n s with
    | true => rfl
    | false => exact sym_all hn (fun t ht => h t (List.mem_cons_of_mem _ ht))
theorem val_eq (l : List TV) (hs : ∀ y ∈ l, ∀ s ∈ y.t.ss, I64 s.num) (T : Nat → CM → Bool) (o : FT) (v : CV CM) (hv : U64 v.n) : valD l T o.kind o.ref v = (valB l o v && (if o.kind = 17 then v.ms.all (T o.ref.toNat) else true)) := by
  unfold valD valB
  by_cases h17 : o.kind = 17
  · rw [if_pos h17, if_pos h17, if_pos h17]
    cases (v.n == 0) with
    | false => rfl
    | true =>
      cases ((v.b.length : Int) == 0) with
      | false => rfl
      | true =>
        obtain ⟨n, b, ms⟩ := v
        match ms with
        | [] => rfl
        | [z] => simp [hd1]
        | z :: y :: r =>
          have h2 : (((z :: y :: r).length : Int) == 1) = false := by
            rw [beq_eq_false_iff_ne]
            simp only [List.length_cons]
            omega
          simp only [h2, Bool.false_and, Bool.and_false, Bool.true_and]
  rw [if_neg h17, if_neg h17, if_neg h17, Bool.and_true]
  by_cases h16 : o.kind = 16
  · rw [if_pos h16, if_pos h16, h16]
    cases hq : vfit 16 v.n v.b.length v.ms.length with
    | false => simp
    | true =>
      rw [if_neg (by simp), if_neg (by decide), Bool.true_and]
      cases hy : l[o.ref.toNat]? with
      | none => rfl
      | some y => exact sym_all hv (hs y (List.mem_of_getElem? hy))
  · rw [if_neg h16, if_neg h16]
    unfold scalarB
    cases hq : vfit o.kind v.n v.b.length v.ms.length with
    | false => simp
    | true =>
      rw [if_neg (by simp)]
      by_cases h14 : o.kind = 14
      · rw [if_pos h14]; simp [h14]
      · rw [if_neg h14]; simp [h14]
theorem single_pairs (fs : List FT) : ∀ (l : List (CF CM)) (T : Nat → Bool), singleT fs l T = true ↔ (∀ x ∈ l, (ownF fs x.num).lab = 4 → T (ownF fs x.num).one.toNat = false) ∧ l.Pairwise (fun x y => (ownF fs x.num).lab = 4 → (ownF fs y.num).lab = 4 → (ownF fs x.num).one.toNat ≠ (ownF fs y.num).one.toNat)
  | [], T => by simp [singleT]
  | f :: r, T => by
    unfold singleT
    by_cases h4 : (ownF fs f.num).lab = 4
    · rw [if_pos h4]
      cases hT : T (ownF fs f.num).one.toNat with
      | true =>
        rw [if_pos rfl]
        refine ⟨fun e => (by cases e), fun h => ?_⟩
        have := h.1 f List.mem_cons_self h4
        rw [hT] at this
        cases this
      | false =>
        rw [if_neg (by simp), single_pairs fs r, List.pairwise_cons]
        constructor
        · rintro ⟨h1, h2⟩
          refine ⟨fun x hx hx4 => ?_, fun y hy _ hy4 e => ?_, h2⟩
          · rcases List.mem_cons.1 hx with rfl | hx
            · exact hT
            · have := h1 x hx hx4
              simp at this
              exact this.2
          · have := h1 y hy hy4
            simp at this
            exact this.1 e.symm
        · rintro ⟨h1, h2, h3⟩
          refine ⟨fun x hx hx4 => ?_, h3⟩
          have a1 := h1 x (List.mem_cons_of_mem _ hx) hx4
          have a2 := h2 x hx h4 hx4
          simp [a1]
          exact fun e => a2 e.symm
    · rw [if_neg h4, single_pairs fs r, List.pairwise_cons]
      constructor
      · rintro ⟨h1, h2⟩
        refine ⟨fun x hx hx4 => ?_, fun y hy hf _ => absurd hf h4, h2⟩
        rcases List.mem_cons.1 hx with rfl | hx
        · exact absurd hx4 h4
        · exact h1 x hx hx4
      · rintro ⟨h1, -, h3⟩
        exact ⟨fun x hx hx4 => h1 x (List.mem_cons_of_mem _ hx) hx4, h3⟩
theorem pairs_all {P : CF CM → Prop} {k : CF CM → Nat} : ∀ {l : List (CF CM)}, l.Pairwise (fun x y => x.num < y.num) → (l.Pairwise (fun x y => P x → P y → k x ≠ k y) ↔ ∀ x ∈ l, ∀ y ∈ l, x.num ≠ y.num → P x → P y → k x ≠ k y)
  | [], _ => by simp
  | a :: r, h => by
    rw [List.pairwise_cons] at h ⊢
    rw [pairs_all h.2]
    constructor
    · rintro ⟨h1, h2⟩ x hx y hy hn px py
      rcases List.mem_cons.1 hx with ex | hx'
      · rcases List.mem_cons.1 hy with ey | hy'
        · exact absurd (by rw [ex, ey]) hn
        · rw [ex] at px ⊢
          exact h1 y hy' px py
      · rcases List.mem_cons.1 hy with ey | hy'
        · rw [ey] at py ⊢
          exact fun e => h1 x hx' py px e.symm
        · exact h2 x hx' y hy' hn px py
    · intro h1
      exact ⟨fun y hy pa py => h1 a List.mem_cons_self y (List.mem_cons_of_mem _ hy) (by have := h.1 y hy; omega) pa py, fun x hx y hy => h1 x (List.mem_cons_of_mem _ hx) y (List.mem_cons_of_mem _ hy)⟩
theorem single_other (fs : List FT) (xs : List (CF CM)) (hr : xs.Pairwise (fun x y => x.num < y.num)) (hh : ∀ x ∈ xs, hasF fs x.num = true) (hn : ∀ x ∈ xs, (ownF fs x.num).num = x.num) (ho : ∀ x ∈ xs, (ownF fs x.num).lab = 4 → 0 ≤ (ownF fs x.num).one) : singleB fs xs = xs.all (fun x => !(((ownF fs x.num).lab == 4) && xs.any (othP fs (ownF fs x.num)))) := by
  rw [Bool.eq_iff_iff]
  unfold singleB
  rw [single_pairs, pairs_all hr, List.all_eq_true]
  constructor
  · rintro ⟨-, h⟩ x hx
    rw [Bool.not_eq_true', Bool.and_eq_false_iff]
    by_cases h4 : (ownF fs x.num).lab = 4
    · refine .inr ?_
      rw [List.any_eq_false]
      intro y hy hq
      unfold othP at hq
      simp only [Bool.and_eq_true, beq_iff_eq, bne_iff_ne] at hq
      obtain ⟨-, q4, q1, q2⟩ := hq
      rw [hn y hy, hn x hx] at q2
      exact h y hy x hx q2 q4 h4 (by rw [q1])
    · exact .inl (by simpa using h4)
  · intro h
    refine ⟨fun x hx _ => rfl, fun x hx y hy hne hx4 hy4 e => ?_⟩
    have := h x hx
    rw [Bool.not_eq_true', Bool.and_eq_false_iff] at this
    rcases this with q | q
    · simp [hx4] at q
    · rw [List.any_eq_false] at q
      refine q y hy ?_
      unfold othP
      have e1 := ho x hx hx4
      have e2 := ho y hy hy4
      simp only [Bool.and_eq_true, beq_iff_eq, bne_iff_ne, hh y hy, hn y hy, hn x hx]
      exact ⟨trivial, hy4, by omega, fun e => hne e.symm⟩
def allF (P : Nat → Bool) (k n : Nat) : Bool := (List.range' k (n - k)).all P
theorem allF_step {P : Nat → Bool} {k n : Nat} (h : k < n) : allF P k n = (P k && allF P (k + 1) n) := by
  unfold allF
  rw [show n - k = (n - (k + 1)) + 1 by omega, List.range'_succ, List.all_cons]
theorem allF_end {P : Nat → Bool} {k n : Nat} (h : n ≤ k) : allF P k n = true := by
  unfold allF
  rw [show n - k = 0 by omega]
  rfl
theorem allF_iff {P : Nat → Bool} {k n : Nat} : allF P k n = true ↔ ∀ i, k ≤ i → i < n → P i = true := by
  unfold allF
  rw [List.all_eq_true]
  constructor
  · intro h i hk hn
    exact h i (List.mem_range'_1.2 ⟨hk, by omega⟩)
  · intro h i hi
    have := List.mem_range'_1.1 hi
    exact h i this.1 (by omega)
def keyAt (key : Int) (ks : List (CV CM)) (k : Nat) (v : CV CM) : Bool := decide (k = 0) || (match ks[k - 1]? with | none => true | some a => decide (cmpV key a.n v.n a.b v.b < 0))
theorem keyAt_succ {key : Int} {ks : List (CV CM)} {k : Nat} {v : CV CM} (h : k < ks.length) : keyAt key ks (k + 1) v = decide (cmpV key ks[k].n v.n ks[k].b v.b < 0) := by
  unfold keyAt
  rw [Nat.add_sub_cancel, List.getElem?_eq_getElem h]
  simp
theorem keyAt_zero {key : Int} {ks : List (CV CM)} {v : CV CM} : keyAt key ks 0 v = true := rfl
def riseAt (xs : List (CF CM)) (j : Nat) (n : Int) : Bool := decide (j = 0) || (match xs[j - 1]? with | none => true | some y => decide (y.num < n))
theorem riseAt_succ {xs : List (CF CM)} {j : Nat} {n : Int} (h : j < xs.length) : riseAt xs (j + 1) n = decide (xs[j].num < n) := by
  unfold riseAt
  rw [Nat.add_sub_cancel, List.getElem?_eq_getElem h]
  simp
theorem riseAt_zero {xs : List (CF CM)} {n : Int} : riseAt xs 0 n = true := rfl
theorem EnsR.old8 {w : World} {Z : Nat → Prop} {v : Value} {xs : List CE} (h : EnsR w Z v xs) : EnsR w (fun b => Z b ∧ b < w.heap.size) v xs := RowM.old (by decide) h (fun cs x _ hx => famE.old hx)
def keyD (l : List TV) (T : Nat → CM → Bool) (key : Int) (ks : List (CV CM)) (k : Nat) : Bool := match ks[k]? with
  | none => true
  | some v => valD l T key 0 v && keyAt key ks k v
def shapeD (lab : Int) (f : CF CM) : Bool := !(decide (lab ≠ 5) && decide (0 < f.ks.length)) && (!(decide (lab = 5) && decide (f.ks.length ≠ f.vs.length)) && !(decide (lab = 0 ∨ lab = 1 ∨ lab = 4) && decide (f.vs.length ≠ 1)))
def fldD (l : List TV) (T : Nat → CM → Bool) (fs : List FT) (xs : List (CF CM)) (j : Nat) : Bool := match xs[j]? with
  | none => true
  | some x => hasF fs x.num && (riseAt xs j x.num && (shapeD (ownF fs x.num).lab x && (x.vs.all (valD l T (ownF fs x.num).kind (ownF fs x.num).ref) && (allF (keyD l T (ownF fs x.num).key x.ks) 0 x.ks.length && !(decide ((ownF fs x.num).lab = 4) && xs.any (othP fs (ownF fs x.num)))))))
def tyD (l : List TV) (T : Nat → CM → Bool) (fs : List FT) (m : CM) : Bool := allF (fldD l T fs m.fs) 0 m.fs.length && m.us.all entB
theorem good_fld {l : List TV} (hg : goodB l = true) {x : TV} (hx : x ∈ l) {o : FT} (ho : o ∈ x.t.fs) : (1 ≤ o.kind ∧ o.kind ≤ 17) ∧ (0 ≤ o.lab ∧ o.lab ≤ 5) ∧ (o.lab = 5 → kkey o.key = true) := by
  obtain ⟨k, hk, rfl⟩ := List.mem_iff_getElem.1 hx
  have h := good_at hg hk
  unfold stepB typB at h
  simp only [Bool.and_eq_true] at h
  have h2 := h.2.2.2
  split at h2
  · rw [Bool.and_eq_true, decide_eq_true_eq] at h2
    have h3 : l[k].t.fs.length = 0 := by omega
    rw [List.eq_nil_of_length_eq_zero h3] at ho
    exact absurd ho (by simp)
  · unfold msgB at h2
    simp only [Bool.and_eq_true] at h2
    have h3 := List.all_eq_true.1 h2.2.2.1 o ho
    unfold fldB at h3
    simp only [Bool.and_eq_true, decide_eq_true_eq] at h3
    refine ⟨h3.1, ?_, fun h5 => ?_⟩
    · have h4 := h3.2.2.1
      unfold labB at h4
      split at h4
      · omega
      · split at h4
        · omega
        · rw [decide_eq_true_eq] at h4
          omega
    · have h6 := h3.2.2.2.2
      unfold keyB at h6
      rw [if_pos h5] at h6
      exact h6
theorem shape_eq {lab : Int} (h0 : 0 ≤ lab) (h5 : lab ≤ 5) (f : CF CM) : shapeD lab f = shapeB lab f := by
  rw [Bool.eq_iff_iff]
  unfold shapeD shapeB
  have hc : lab = 0 ∨ lab = 1 ∨ lab = 2 ∨ lab = 3 ∨ lab = 4 ∨ lab = 5 := by omega
  rcases hc with rfl | rfl | rfl | rfl | rfl | rfl <;> simp <;> omega
theorem key_kind {k : Int} (h : kkey k = true) : k ≠ 16 ∧ k ≠ 17 := by
  unfold kkey at h
  rw [decide_eq_true_eq] at h
  omega
theorem val_key (l : List TV) (T : Nat → CM → Bool) {k : Int} (h : kkey k = true) (v : CV CM) : valD l T k 0 v = scalarB k v := by
  obtain ⟨h16, h17⟩ := key_kind h
  unfold valD scalarB
  rw [if_neg h17]
  cases hq : vfit k v.n v.b.length v.ms.length with
  | false => simp
  | true =>
    rw [if_neg (by simp)]
    by_cases h14 : k = 14
    · rw [if_pos h14]; simp [h14]
    · rw [if_neg h14, if_neg h16]; simp [h14]
theorem scalar_fit {k : Int} {v : CV CM} (h : scalarB k v = true) : vfit k v.n v.b.length v.ms.length = true := by
  unfold scalarB at h
  rw [Bool.and_eq_true] at h
  exact h.1
theorem fit_ms {k n : Int} {a b : Nat} (h : vfit k n a b = true) : b = 0 := by
  unfold vfit at h
  rw [Bool.and_eq_true, decide_eq_true_eq] at h
  exact h.1
theorem key_lt {k : Int} (hk : kkey k = true) {a b : CV CM} (ha : scalarB k a = true) (hb : scalarB k b = true) : keyLt k a b = decide (cmpV k a.n b.n a.b b.b < 0) := by
  unfold keyLt cmpE
  rw [if_neg (by rw [hk]; simp), if_neg (by rw [scalar_fit ha, scalar_fit hb]; simp)]
theorem keysB_iff {k : Int} {l : List (CV CM)} : keysB k l = true ↔ ∀ i (h : i + 1 < l.length), keyLt k l[i] l[i + 1] = true := by
  unfold keysB keyS
  rw [List.all_eq_true]
  constructor
  · intro h i hi
    have := h i (List.mem_range'_1.2 ⟨by omega, by omega⟩)
    rw [List.getElem?_eq_getElem (by omega), List.getElem?_eq_getElem hi] at this
    exact this
  · intro h i hi
    have := List.mem_range'_1.1 hi
    rw [List.getElem?_eq_getElem (by omega), List.getElem?_eq_getElem (by omega)]
    exact h i (by omega)
theorem riseM_iff {l : List (CF CM)} : riseM l = true ↔ ∀ i (h : i + 1 < l.length), l[i].num < l[i + 1].num := by
  unfold riseM
  rw [List.all_eq_true]
  constructor
  · intro h i hi
    have := h i (List.mem_range.2 (by omega))
    rw [List.getElem?_eq_getElem (by omega), List.getElem?_eq_getElem hi] at this
    exact of_decide_eq_true this
  · intro h i hi
    have := List.mem_range.1 hi
    rw [List.getElem?_eq_getElem (by omega), List.getElem?_eq_getElem (by omega)]
    exact decide_eq_true (h i (by omega))
theorem rise_lt {l : List (CF CM)} (h : riseM l = true) : ∀ (i j : Nat) (hij : i < j) (hj : j < l.length), (l[i]'(by omega)).num < l[j].num := by
  rw [riseM_iff] at h
  intro i j hij hj
  induction j with
  | zero => omega
  | succ j ih =>
    have h1 := h j hj
    by_cases e : i = j
    · subst e; exact h1
    · have := ih (by omega) (by omega); omega
theorem rise_pairs {l : List (CF CM)} (h : riseM l = true) : l.Pairwise (fun x y => x.num < y.num) := by
  rw [List.pairwise_iff_getElem]
  intro i j hi hj hij
  exact rise_lt h i j hij hj
theorem keyD_at {l : List TV} {T : Nat → CM → Bool} {key : Int} {ks : List (CV CM)} {k : Nat} (h : k < ks.length) : keyD l T key ks k = (valD l T key 0 ks[k] && keyAt key ks k ks[k]) := by
  unfold keyD
  rw [List.getElem?_eq_getElem h]
theorem keys_eq (l : List TV) (T : Nat → CM → Bool) {key : Int} (hk : kkey key = true) (ks : List (CV CM)) : allF (keyD l T key ks) 0 ks.length = (ks.all (scalarB key) && keysB key ks) := by
  rw [Bool.eq_iff_iff, Bool.and_eq_true, allF_iff, List.all_eq_true]
  constructor
  · intro h
    have h1 : ∀ i (hi : i < ks.length), scalarB key ks[i] = true := fun i hi => by
      have := h i (by omega) hi
      rw [keyD_at hi, Bool.and_eq_true, val_key l T hk] at this
      exact this.1
    refine ⟨fun v hv => ?_, keysB_iff.2 fun i hi => ?_⟩
    · obtain ⟨i, hi, rfl⟩ := List.mem_iff_getElem.1 hv
      exact h1 i hi
    · rw [key_lt hk (h1 i (by omega)) (h1 (i + 1) hi)]
      have := h (i + 1) (by omega) hi
      rw [keyD_at hi, Bool.and_eq_true, keyAt_succ (by omega)] at this
      exact this.2
  · rintro ⟨h1, h2⟩ i _ hi
    rw [keysB_iff] at h2
    rw [keyD_at hi, Bool.and_eq_true, val_key l T hk]
    refine ⟨h1 _ (List.getElem_mem hi), ?_⟩
    match i, hi with
    | 0, _ => exact keyAt_zero
    | i + 1, hi =>
      rw [keyAt_succ (by omega)]
      have := h2 i hi
      rw [key_lt hk (h1 _ (List.getElem_mem _)) (h1 _ (List.getElem_mem _))] at this
      exact this
theorem all_flat {α β : Type} (g : α → List β) (P : β → Bool) : ∀ (l : List α), (l.flatMap g).all P = l.all (fun a => (g a).all P)
  | [] => rfl
  | a :: r => by rw [List.flatMap_cons, List.all_append, List.all_cons, all_flat g P r]
theorem all_and {α : Type} (P Q : α → Bool) : ∀ (l : List α), l.all (fun a => P a && Q a) = (l.all P && l.all Q)
  | [] => rfl
  | a :: r => by
    rw [List.all_cons, List.all_cons, List.all_cons, all_and P Q r]
    cases P a <;> cases Q a <;> cases r.all P <;> rfl
theorem valB_ms {l : List TV} {o : FT} {v : CV CM} (h : valB l o v = true) (h17 : o.kind ≠ 17) : v.ms = [] := by
  unfold valB at h
  rw [if_neg h17] at h
  refine List.eq_nil_of_length_eq_zero ?_
  by_cases h16 : o.kind = 16
  · rw [if_pos h16, Bool.and_eq_true] at h
    exact fit_ms h.1
  · rw [if_neg h16] at h
    exact fit_ms (scalar_fit h)
theorem fld_eq (l : List TV) (hs : ∀ y ∈ l, ∀ s ∈ y.t.ss, I64 s.num) (T : Nat → CM → Bool) (o : FT) (h0 : 0 ≤ o.lab ∧ o.lab ≤ 5) (hk : o.lab = 5 → kkey o.key = true) (f : CF CM) (hu : ∀ v ∈ f.vs, U64 v.n) : (shapeD o.lab f && (f.vs.all (valD l T o.kind o.ref) && allF (keyD l T o.key f.ks) 0 f.ks.length)) = (fieldB l o f && (allM f).all (T o.ref.toNat)) := by
  unfold fieldB
  rw [shape_eq h0.1 h0.2]
  cases hsh : shapeB o.lab f with
  | false => rfl
  | true =>
    have hv : f.vs.all (valD l T o.kind o.ref) = (f.vs.all (valB l o) && f.vs.all (fun v => v.ms.all (T o.ref.toNat))) := by
      rw [← all_and]
      rw [Bool.eq_iff_iff, List.all_eq_true, List.all_eq_true]
      have e : ∀ v ∈ f.vs, valD l T o.kind o.ref v = (valB l o v && v.ms.all (T o.ref.toNat)) := fun v hv => by
        rw [val_eq l hs T o v (hu v hv)]
        by_cases h17 : o.kind = 17
        · rw [if_pos h17]
        · rw [if_neg h17]
          cases hb : valB l o v with
          | false => rfl
          | true => rw [valB_ms hb h17]; rfl
      exact ⟨fun h v hv => by rw [← e v hv]; exact h v hv, fun h v hv => by rw [e v hv]; exact h v hv⟩
    have hkk : allF (keyD l T o.key f.ks) 0 f.ks.length = ((f.ks.all (scalarB o.key) && keysB o.key f.ks) && f.ks.all (fun v => v.ms.all (T o.ref.toNat))) := by
      by_cases h5 : o.lab = 5
      · rw [keys_eq l T (hk h5)]
        cases ha : f.ks.all (scalarB o.key) with
        | false => rfl
        | true =>
          have : f.ks.all (fun v => v.ms.all (T o.ref.toNat)) = true := by
            rw [List.all_eq_true] at ha ⊢
            intro v hv
            rw [List.eq_nil_of_length_eq_zero (fit_ms (scalar_fit (ha v hv)))]
            rfl
          rw [this, Bool.and_true]
      · have : f.ks.length = 0 := by
          unfold shapeB at hsh
          split at hsh
          · exact of_decide_eq_true hsh
          · first
            | (rw [Bool.and_eq_true, decide_eq_true_eq] at hsh; exact hsh.1)
            | (rw [if_neg h5, Bool.and_eq_true, decide_eq_true_eq] at hsh; exact hsh.1)
        rw [List.eq_nil_of_length_eq_zero this]
        rfl
    unfold allM
    rw [hv, hkk, List.all_append, all_flat, all_flat]
    generalize f.vs.all (valB l o) = b1
    generalize (f.vs.all fun v => v.ms.all (T o.ref.toNat)) = b2
    generalize f.ks.all (scalarB o.key) = b3
    generalize keysB o.key f.ks = b4
    generalize (f.ks.all fun v => v.ms.all (T o.ref.toNat)) = b5
    cases b1 <;> cases b2 <;> cases b3 <;> cases b4 <;> cases b5 <;> rfl
def keptK (l : List TV) (d : Nat) (k : Nat) (z : CM) : Bool := match l[k]? with
  | some y => keptB l d y z
  | none => false
theorem fldD_at {l : List TV} {T : Nat → CM → Bool} {fs : List FT} {xs : List (CF CM)} {j : Nat} (h : j < xs.length) : fldD l T fs xs j = (hasF fs xs[j].num && (riseAt xs j xs[j].num && (shapeD (ownF fs xs[j].num).lab xs[j] && (xs[j].vs.all (valD l T (ownF fs xs[j].num).kind (ownF fs xs[j].num).ref) && (allF (keyD l T (ownF fs xs[j].num).key xs[j].ks) 0 xs[j].ks.length && !(decide ((ownF fs xs[j].num).lab = 4) && xs.any (othP fs (ownF fs xs[j].num)))))))) := by
  unfold fldD
  rw [List.getElem?_eq_getElem h]
theorem ty_eq (l : List TV) (hg : goodB l = true) (hs : ∀ y ∈ l, ∀ s ∈ y.t.ss, I64 s.num) (x : TV) (hx : x ∈ l) (d : Nat) (m : CM) (hu : ∀ f ∈ m.fs, ∀ v ∈ f.vs, U64 v.n) : tyD l (keptK l d) x.t.fs m = keptB l (d + 1) x m := by
  have hw : keptB l (d + 1) x m = (holdB l entB x m && m.fs.all (fun f => (allM f).all (keptB l d (blwB l x f)))) := rfl
  have hT : ∀ f ∈ m.fs, hasF x.t.fs f.num = true → keptK l d (ownF x.t.fs f.num).ref.toNat = keptB l d (blwB l x f) := fun f hf hh => by
    funext z
    unfold keptK
    rw [blwB_at hg hx hh]
  have hF : ∀ f ∈ m.fs, hasF x.t.fs f.num = true → (shapeD (ownF x.t.fs f.num).lab f && (f.vs.all (valD l (keptK l d) (ownF x.t.fs f.num).kind (ownF x.t.fs f.num).ref) && allF (keyD l (keptK l d) (ownF x.t.fs f.num).key f.ks) 0 f.ks.length)) = (fieldB l (ownF x.t.fs f.num) f && (allM f).all (keptB l d (blwB l x f))) := fun f hf hh => by
    obtain ⟨-, g1, g2⟩ := good_fld hg hx (ownF_hasF hh).1
    rw [← hT f hf hh]
    exact fld_eq l hs _ _ g1 g2 f (hu f hf)
  rw [hw]
  unfold tyD holdB
  rw [Bool.eq_iff_iff]
  simp only [Bool.and_eq_true, List.all_eq_true, allF_iff]
  constructor
  · rintro ⟨h1, h2⟩
    have h3 : ∀ i (hi : i < m.fs.length), hasF x.t.fs m.fs[i].num = true := fun i hi => by
      have := h1 i (by omega) hi
      rw [fldD_at hi, Bool.and_eq_true] at this
      exact this.1
    have h4 : riseM m.fs = true := riseM_iff.2 fun i hi => by
      have := h1 (i + 1) (by omega) hi
      rw [fldD_at hi, Bool.and_eq_true, Bool.and_eq_true, riseAt_succ (by omega)] at this
      exact of_decide_eq_true this.2.1
    have h3m : ∀ f ∈ m.fs, hasF x.t.fs f.num = true := fun f hf => by
      obtain ⟨i, hi, rfl⟩ := List.mem_iff_getElem.1 hf
      exact h3 i hi
    have h5 : ∀ f ∈ m.fs, (fieldB l (ownF x.t.fs f.num) f && (allM f).all (keptB l d (blwB l x f))) = true ∧ (!(decide ((ownF x.t.fs f.num).lab = 4) && m.fs.any (othP x.t.fs (ownF x.t.fs f.num)))) = true := fun f hf => by
      obtain ⟨i, hi, rfl⟩ := List.mem_iff_getElem.1 hf
      have := h1 i (by omega) hi
      rw [fldD_at hi] at this
      simp only [Bool.and_eq_true] at this
      rw [← hF _ hf (h3 i hi)]
      simp only [Bool.and_eq_true]
      exact ⟨⟨this.2.2.1, this.2.2.2.1, this.2.2.2.2.1⟩, this.2.2.2.2.2⟩
    refine ⟨⟨h4, fun f hf => ?_, ?_, h2⟩, fun f hf => ?_⟩
    · unfold typB8
      have := (h5 f hf).1
      rw [Bool.and_eq_true] at this ⊢
      exact ⟨h3m f hf, this.1⟩
    · rw [single_other x.t.fs m.fs (rise_pairs h4) h3m (fun f hf => (ownF_hasF (h3m f hf)).2) (fun f hf e4 => (good_ones hg hx _ (ownF_hasF (h3m f hf)).1 e4).1), List.all_eq_true]
      intro f hf
      have := (h5 f hf).2
      rw [← this]
      congr 2
    · have := (h5 f hf).1
      rw [Bool.and_eq_true, List.all_eq_true] at this
      exact this.2
  · rintro ⟨⟨h4, h6, h7, h2⟩, h8⟩
    have h3m : ∀ f ∈ m.fs, hasF x.t.fs f.num = true := fun f hf => by
      have := h6 f hf
      unfold typB8 at this
      rw [Bool.and_eq_true] at this
      exact this.1
    rw [single_other x.t.fs m.fs (rise_pairs h4) h3m (fun f hf => (ownF_hasF (h3m f hf)).2) (fun f hf e4 => (good_ones hg hx _ (ownF_hasF (h3m f hf)).1 e4).1), List.all_eq_true] at h7
    refine ⟨fun i _ hi => ?_, h2⟩
    have hf := List.getElem_mem hi
    have a1 := h6 _ hf
    unfold typB8 at a1
    rw [Bool.and_eq_true] at a1
    have a2 := hF _ hf (h3m _ hf)
    rw [a1.2, List.all_eq_true.2 (h8 _ hf)] at a2
    simp only [Bool.and_true, Bool.and_eq_true] at a2
    rw [fldD_at hi]
    simp only [Bool.and_eq_true]
    refine ⟨h3m _ hf, ?_, a2.1, a2.2.1, a2.2.2, ?_⟩
    · match i, hi with
      | 0, _ => exact riseAt_zero
      | i + 1, hi =>
        rw [riseAt_succ (by omega)]
        exact decide_eq_true ((riseM_iff.1 h4) i hi)
    · rw [← h7 _ hf]
      congr 2
set_option maxHeartbeats 1000000
theorem kept_all {l : List TV} {d : Nat} {x : TV} {m : CM} (h : keptB l (d + 1) x m = true) : holdB l entB x m = true ∧ ∀ f ∈ m.fs, ∀ z ∈ allM f, keptB l d (blwB l x f) z = true := by
  unfold keptB walkB at h
  simp only [Bool.and_eq_true, List.all_eq_true] at h
  exact ⟨h.1, fun f hf z hz => h.2 f hf z hz⟩
set_option maxHeartbeats 2000000
structure SeB (l : List TV) (ta : Option Addr) (tc : Nat) (w : World) (y : TV) (p4 p6 p7 : Nat) : Prop where
  k : Blk w p4 71 (cTV y).toArray
  s : Blk w p6 77 #[.func (.func 38) #[] #[]]
  b : Blk w p7 78 #[.func (.func 39) #[.agg #[.slice ta l.length tc]] #[]]
theorem SeB.kept {l : List TV} {ta : Option Addr} {tc : Nat} {w w' : World} {y : TV} {p4 p6 p7 : Nat} (h : SeB l ta tc w y p4 p6 p7) (hb : Below w.heap.size w w') : SeB l ta tc w' y p4 p6 p7 := ⟨h.k.kept hb, h.s.kept hb, h.b.kept hb⟩
theorem typedAtOk (w : World) (l : List TV) (ta : Option Addr) (tc : Nat) (h : TbR w (.slice ta l.length tc) l) (hk : ∀ x ∈ l, OkV x) (mx : Int) (hm0 : w.cell? ⟨0, 0, none⟩ = some (.int .i64 mx)) (k : Nat) (hkl : k < l.length) (hg : goodB l = true) (he : l[k].t.enum = false) (Z : Nat → Prop) (d : Nat) (cs : List Value) (m : CM) (hm : MsgE w Z d cs m) (hq : keptB l d l[k] m = true) : Calls Tryz.prog 36 #[.agg #[.slice ta l.length tc], .int .i64 (k : Int), .agg cs.toArray] w fun e w' => e = .returned (.tuple #[.agg #[.string (strOfNums l[k].t.name), .bool false, l[k].f, l[k].o, l[k].s, l[k].r], .agg #[.slice ta l.length tc], .int .i64 0]) ∧ Below w.heap.size w w' := by
  have HA := hid fun W (hW : Below w.heap.size w W) => msgAtOk W l ta tc (h.kept hW) hk mx (cell_below hm0 hW) k hkl hg he
  have HK := hid fun W (hW : Below w.heap.size w W) => areKeptT W l ta tc (h.kept hW) hg l[k] (List.getElem_mem hkl) Z d cs m (hm.kept hW)
  obtain ⟨ta1, tc1, ta2, tc2, ta3, tc3, ta4, tc4, e1, e2, e3, e4⟩ := shT_of (h.ty l[k] (List.getElem_mem hkl))
  have ec : cTV l[k] = [.string (strOfNums l[k].t.name), .bool false, .slice ta1 l[k].t.fs.length tc1, .slice ta2 l[k].t.os.length tc2, .slice ta3 l[k].t.ss.length tc3, .slice ta4 l[k].t.rs.length tc4] := by unfold cTV; rw [e1, e2, e3, e4, he]
  obtain ⟨fa, fc, ua, uc, rfl, -⟩ := msg_openD hm
  rw [ec] at HK
  rw [e1, e2, e3, e4] at HA
  rw [hq] at HK
  rw [e1, e2, e3, e4]
  clear h hg hm e1 e2 e3 e4 ec hm0 hk he hq
  generalize l[k] = x at *
  go_enter Tryz.func36, Tryz.ntmps36
  go_wp2_with fail
  refine (HA.out _ (by exact blBy)).mono ?_
  rintro e w1 ⟨rfl, hb1⟩
  have HB1 : Hid (Below w.heap.size w w1) := hid (bl_then (by exact blBy) hb1)
  have Bt : Blk w1 w.heap.size 46 #[.slice ta l.length tc] := ((((Blk.new _ _ _).kept (below_alloc _)).kept (below_alloc _)).kept (below_alloc _)).kept hb1
  have Bm : Blk w1 (w.heap.size + 1) 35 #[.slice fa m.fs.length fc, .slice ua m.us.length uc] := (((Blk.newAt (by simp)).kept (below_alloc _)).kept (below_alloc _)).kept hb1
  have Br5 : Blk w1 (w.heap.size + 1 + 1) 71 #[.string ⟨#[]⟩, .bool false, .slice none 0 0, .slice none 0 0, .slice none 0 0, .slice none 0 0] := ((Blk.newAt (by simp)).kept (below_alloc _)).kept hb1
  have Br6 : Blk w1 (w.heap.size + 1 + 1 + 1) 73 #[.slice none 0 0] := (Blk.newAt (by simp)).kept hb1
  have xt := Bt.cellF
  have zt := Bt.lt
  have xm := Bm.cellF
  have zm := Bm.lt
  have xr5 := Br5.cellF
  have yr5 := Br5.frz
  have zr5 := Br5.lt
  have xr6 := Br6.cellF
  have yr6 := Br6.frz
  have zr6 := Br6.lt
  clear HA
  go_wp2_with fail
  refine (HK.out _ (by have := HB1.out; exact blBy)).mono ?_
  rintro e w2 ⟨rfl, hb2⟩
  have HB2 : Hid (Below w.heap.size w w2) := hid (bl_then (by have := HB1.out; exact blBy) hb2)
  have hz2 : Below w1.heap.size w1 w2 := bl_then (by exact blBy) hb2
  have Bx2 : Blk w2 w1.heap.size 71 #[.string (strOfNums x.t.name), .bool false, .slice ta1 x.t.fs.length tc1, .slice ta2 x.t.os.length tc2, .slice ta3 x.t.ss.length tc3, .slice ta4 x.t.rs.length tc4] := ((Blk.new _ _ _).kept (below_alloc _)).kept hb2
  have Bq2 : Blk w2 (w1.heap.size + 1) 73 #[.slice ta l.length tc] := (Blk.newAt (by simp)).kept hb2
  replace Br5 := Br5.kept hz2
  replace Br6 := Br6.kept hz2
  replace xr5 := Br5.cellF
  replace yr5 := Br5.frz
  replace zr5 := Br5.lt
  replace xr6 := Br6.cellF
  replace yr6 := Br6.frz
  replace zr6 := Br6.lt
  have xx2 := Bx2.cellF
  have zx2 := Bx2.lt
  have xq2 := Bq2.cellF
  have zq2 := Bq2.lt
  have hs1 : w.heap.size + 4 ≤ w1.heap.size := by have := hb1.size; simpa using this
  have n1 : w1.heap.size + 1 ≠ w.heap.size + 1 + 1 := by omega
  have n2 : w1.heap.size ≠ w.heap.size + 1 + 1 := by omega
  have n3 : w1.heap.size + 1 ≠ w.heap.size + 1 + 1 + 1 := by omega
  have n4 : w1.heap.size ≠ w.heap.size + 1 + 1 + 1 := by omega
  have n5 : w.heap.size + 1 + 1 ≠ w.heap.size + 1 + 1 + 1 := by omega
  clear hb2 hz2 HK xt zt xm zm
  go_wp2
  go_region
  all_goals (try go_wp2)
  all_goals exact bodyPost_ret (v := .tuple #[.agg #[.string (strOfNums x.t.name), .bool false, .slice ta1 x.t.fs.length tc1, .slice ta2 x.t.os.length tc2, .slice ta3 x.t.ss.length tc3, .slice ta4 x.t.rs.length tc4], .agg #[.slice ta l.length tc], .int .i64 0]) (by simp [results, Tryz.results36, go_sem, xr5, yr5, zr5, xr6, yr6, zr6]) rfl ⟨rfl, by have := HB2.out; exact blBy⟩
theorem typedAtBad (w : World) (l : List TV) (ta : Option Addr) (tc : Nat) (h : TbR w (.slice ta l.length tc) l) (hk : ∀ x ∈ l, OkV x) (mx : Int) (hm0 : w.cell? ⟨0, 0, none⟩ = some (.int .i64 mx)) (k : Nat) (hkl : k < l.length) (hg : goodB l = true) (he : l[k].t.enum = false) (Z : Nat → Prop) (d : Nat) (cs : List Value) (m : CM) (hm : MsgE w Z d cs m) (hq : keptB l d l[k] m = false) : Calls Tryz.prog 36 #[.agg #[.slice ta l.length tc], .int .i64 (k : Int), .agg cs.toArray] w fun e w' => e = .returned (.tuple #[.agg #[.string ⟨#[]⟩, .bool false, .slice none 0 0, .slice none 0 0, .slice none 0 0, .slice none 0 0], .agg #[.slice none 0 0], .int .i64 10]) ∧ Below w.heap.size w w' := by
  have HA := hid fun W (hW : Below w.heap.size w W) => msgAtOk W l ta tc (h.kept hW) hk mx (cell_below hm0 hW) k hkl hg he
  have HK := hid fun W (hW : Below w.heap.size w W) => areKeptT W l ta tc (h.kept hW) hg l[k] (List.getElem_mem hkl) Z d cs m (hm.kept hW)
  obtain ⟨ta1, tc1, ta2, tc2, ta3, tc3, ta4, tc4, e1, e2, e3, e4⟩ := shT_of (h.ty l[k] (List.getElem_mem hkl))
  have ec : cTV l[k] = [.string (strOfNums l[k].t.name), .bool false, .slice ta1 l[k].t.fs.length tc1, .slice ta2 l[k].t.os.length tc2, .slice ta3 l[k].t.ss.length tc3, .slice ta4 l[k].t.rs.length tc4] := by unfold cTV; rw [e1, e2, e3, e4, he]
  obtain ⟨fa, fc, ua, uc, rfl, -⟩ := msg_openD hm
  rw [ec] at HK
  rw [e1, e2, e3, e4] at HA
  rw [hq] at HK
  clear h hg hm e1 e2 e3 e4 ec hm0 hk he hq
  generalize l[k] = x at *
  go_enter Tryz.func36, Tryz.ntmps36
  go_wp2_with fail
  refine (HA.out _ (by exact blBy)).mono ?_
  rintro e w1 ⟨rfl, hb1⟩
  have HB1 : Hid (Below w.heap.size w w1) := hid (bl_then (by exact blBy) hb1)
  have Bt : Blk w1 w.heap.size 46 #[.slice ta l.length tc] := ((((Blk.new _ _ _).kept (below_alloc _)).kept (below_alloc _)).kept (below_alloc _)).kept hb1
  have Bm : Blk w1 (w.heap.size + 1) 35 #[.slice fa m.fs.length fc, .slice ua m.us.length uc] := (((Blk.newAt (by simp)).kept (below_alloc _)).kept (below_alloc _)).kept hb1
  have Br5 : Blk w1 (w.heap.size + 1 + 1) 71 #[.string ⟨#[]⟩, .bool false, .slice none 0 0, .slice none 0 0, .slice none 0 0, .slice none 0 0] := ((Blk.newAt (by simp)).kept (below_alloc _)).kept hb1
  have Br6 : Blk w1 (w.heap.size + 1 + 1 + 1) 73 #[.slice none 0 0] := (Blk.newAt (by simp)).kept hb1
  have xt := Bt.cellF
  have zt := Bt.lt
  have xm := Bm.cellF
  have zm := Bm.lt
  have xr5 := Br5.cellF
  have yr5 := Br5.frz
  have zr5 := Br5.lt
  have xr6 := Br6.cellF
  have yr6 := Br6.frz
  have zr6 := Br6.lt
  clear HA
  go_wp2_with fail
  refine (HK.out _ (by have := HB1.out; exact blBy)).mono ?_
  rintro e w2 ⟨rfl, hb2⟩
  have HB2 : Hid (Below w.heap.size w w2) := hid (bl_then (by have := HB1.out; exact blBy) hb2)
  have hz2 : Below w1.heap.size w1 w2 := bl_then (by exact blBy) hb2
  have Bx2 : Blk w2 w1.heap.size 71 #[.string (strOfNums x.t.name), .bool false, .slice ta1 x.t.fs.length tc1, .slice ta2 x.t.os.length tc2, .slice ta3 x.t.ss.length tc3, .slice ta4 x.t.rs.length tc4] := ((Blk.new _ _ _).kept (below_alloc _)).kept hb2
  have Bq2 : Blk w2 (w1.heap.size + 1) 73 #[.slice ta l.length tc] := (Blk.newAt (by simp)).kept hb2
  replace Br5 := Br5.kept hz2
  replace Br6 := Br6.kept hz2
  replace xr5 := Br5.cellF
  replace yr5 := Br5.frz
  replace zr5 := Br5.lt
  replace xr6 := Br6.cellF
  replace yr6 := Br6.frz
  replace zr6 := Br6.lt
  have xx2 := Bx2.cellF
  have zx2 := Bx2.lt
  have xq2 := Bq2.cellF
  have zq2 := Bq2.lt
  have hs1 : w.heap.size + 4 ≤ w1.heap.size := by have := hb1.size; simpa using this
  have n1 : w1.heap.size + 1 ≠ w.heap.size + 1 + 1 := by omega
  have n2 : w1.heap.size ≠ w.heap.size + 1 + 1 := by omega
  have n3 : w1.heap.size + 1 ≠ w.heap.size + 1 + 1 + 1 := by omega
  have n4 : w1.heap.size ≠ w.heap.size + 1 + 1 + 1 := by omega
  have n5 : w.heap.size + 1 + 1 ≠ w.heap.size + 1 + 1 + 1 := by omega
  clear hb2 hz2 HK xt zt xm zm
  go_wp2
  all_goals (try go_wp2)
  all_goals exact bodyPost_ret (v := .tuple #[.agg #[.string ⟨#[]⟩, .bool false, .slice none 0 0, .slice none 0 0, .slice none 0 0, .slice none 0 0], .agg #[.slice none 0 0], .int .i64 10]) (by simp [results, Tryz.results36, go_sem, xr5, yr5, zr5, xr6, yr6, zr6]) rfl ⟨rfl, by have := HB2.out; exact blBy⟩
theorem typedAtNo (w : World) (l : List TV) (ta : Option Addr) (tc : Nat) (h : TbR w (.slice ta l.length tc) l) (hk : ∀ x ∈ l, OkV x) (mx : Int) (hm0 : w.cell? ⟨0, 0, none⟩ = some (.int .i64 mx)) (idx : Int) (hno : isB l idx false = false) (fa ua : Option Addr) (fn fc un uc : Nat) : Calls Tryz.prog 36 #[.agg #[.slice ta l.length tc], .int .i64 idx, .agg #[.slice fa fn fc, .slice ua un uc]] w fun e w' => e = .returned (.tuple #[.agg #[.string ⟨#[]⟩, .bool false, .slice none 0 0, .slice none 0 0, .slice none 0 0, .slice none 0 0], .agg #[.slice none 0 0], .int .i64 18]) ∧ Below w.heap.size w w' := by
  have HA := hid fun W (hW : Below w.heap.size w W) => msgAtNo W l ta tc (h.kept hW) hk mx (cell_below hm0 hW) idx hno
  clear h hm0 hk hno
  go_enter Tryz.func36, Tryz.ntmps36
  go_wp2_with fail
  refine (HA.out _ (by exact blBy)).mono ?_
  rintro e w1 ⟨rfl, hb1⟩
  have HB1 : Hid (Below w.heap.size w w1) := hid (bl_then (by exact blBy) hb1)
  have Br5 : Blk w1 (w.heap.size + 1 + 1) 71 #[.string ⟨#[]⟩, .bool false, .slice none 0 0, .slice none 0 0, .slice none 0 0, .slice none 0 0] := ((Blk.newAt (by simp)).kept (below_alloc _)).kept hb1
  have Br6 : Blk w1 (w.heap.size + 1 + 1 + 1) 73 #[.slice none 0 0] := (Blk.newAt (by simp)).kept hb1
  have xr5 := Br5.cellF
  have yr5 := Br5.frz
  have zr5 := Br5.lt
  have xr6 := Br6.cellF
  have yr6 := Br6.frz
  have zr6 := Br6.lt
  clear hb1 HA
  go_wp2
  exact bodyPost_ret (v := .tuple #[.agg #[.string ⟨#[]⟩, .bool false, .slice none 0 0, .slice none 0 0, .slice none 0 0, .slice none 0 0], .agg #[.slice none 0 0], .int .i64 18]) (by simp [results, Tryz.results36, go_sem, xr5, yr5, zr5, xr6, yr6, zr6]) rfl ⟨rfl, by have := HB1.out; exact blBy⟩
def insM (f : CF CM) : List (CF CM) → List (CF CM)
  | [] => [f]
  | o :: r => if laterB f.num o = true then f :: o :: r else o :: insM f r
def withM (fs : List FT) (m : CM) (f : CF CM) : CM := CM.mk (insM f (m.fs.filter (stayB fs f.num))) m.us
def plcM (n : Int) (l : List (CF CM)) : Nat := (l.takeWhile (fun o => !(laterB n o))).length
theorem insM_at (f : CF CM) : ∀ l : List (CF CM), insM f l = l.take (plcM f.num l) ++ f :: l.drop (plcM f.num l)
  | [] => rfl
  | o :: r => by
    unfold insM plcM
    rw [List.takeWhile_cons]
    cases hq : laterB f.num o with
    | true => simp
    | false =>
      rw [if_neg (by simp)]
      have := insM_at f r
      unfold plcM at this
      simp only [Bool.not_false, if_true, List.length_cons, List.take_succ_cons, List.drop_succ_cons, List.cons_append]
      rw [← this]
theorem plcM_le (n : Int) (l : List (CF CM)) : plcM n l ≤ l.length := by
  unfold plcM
  exact (List.takeWhile_sublist _).length_le
def putS (f : CF CM) (s : List (CF CM) × Bool) (x : CF CM) : List (CF CM) × Bool :=
  if x.num = f.num then s else if f.num < x.num ∧ s.2 = false then (s.1 ++ [f] ++ [x], true) else (s.1 ++ [x], s.2)
def putE (f : CF CM) (s : List (CF CM) × Bool) : List (CF CM) := if s.2 = true then s.1 else s.1 ++ [f]
theorem putS_done (f : CF CM) : ∀ (l o : List (CF CM)), l.foldl (putS f) (o, true) = (o ++ l.filter (fun x => x.num != f.num), true)
  | [], o => by simp
  | x :: r, o => by
    rw [List.foldl_cons]
    by_cases h : x.num = f.num
    · have e1 : putS f (o, true) x = (o, true) := by unfold putS; rw [if_pos h]
      rw [e1, putS_done f r o]
      simp [h]
    · have e1 : putS f (o, true) x = (o ++ [x], true) := by unfold putS; rw [if_neg h, if_neg (by simp)]
      rw [e1, putS_done f r _]
      simp [h]
theorem putS_ins (f : CF CM) : ∀ (l o : List (CF CM)), putE f (l.foldl (putS f) (o, false)) = o ++ insM f (l.filter (fun x => x.num != f.num))
  | [], o => by simp [putE, insM]
  | x :: r, o => by
    rw [List.foldl_cons]
    by_cases h : x.num = f.num
    · have e1 : putS f (o, false) x = (o, false) := by unfold putS; rw [if_pos h]
      rw [e1, putS_ins f r o]
      simp [h]
    · by_cases h2 : f.num < x.num
      · have e1 : putS f (o, false) x = (o ++ [f] ++ [x], true) := by unfold putS; rw [if_neg h, if_pos ⟨h2, rfl⟩]
        rw [e1, putS_done]
        have e2 : laterB f.num x = true := by simp [laterB, h2]
        simp [putE, h, insM, e2]
      · have e1 : putS f (o, false) x = (o ++ [x], false) := by unfold putS; rw [if_neg h, if_neg (by intro q; exact h2 q.1)]
        rw [e1, putS_ins f r _]
        have e2 : laterB f.num x = false := by simp [laterB, h2]
        simp [h, insM, e2]
def othS (a : FT) (m : CM) (b : FT) : CM := if a.lab = 4 ∧ b.lab = 4 ∧ b.one = a.one ∧ ¬ b.num = a.num then CM.mk (m.fs.filter (notN b.num)) m.us else m
theorem othS_us (a : FT) : ∀ (l : List FT) (m : CM), (l.foldl (othS a) m).us = m.us
  | [], m => rfl
  | b :: r, m => by
    rw [List.foldl_cons, othS_us a r]
    unfold othS
    split <;> rfl
theorem othS_fs (a : FT) : ∀ (l : List FT) (m : CM), (l.foldl (othS a) m).fs = m.fs.filter (fun o => l.all (fun b => !(decide (a.lab = 4 ∧ b.lab = 4 ∧ b.one = a.one ∧ ¬ b.num = a.num) && decide (o.num = b.num))))
  | [], m => (List.filter_eq_self.2 (fun _ _ => rfl)).symm
  | b :: r, m => by
    rw [List.foldl_cons, othS_fs a r]
    unfold othS
    by_cases h : a.lab = 4 ∧ b.lab = 4 ∧ b.one = a.one ∧ ¬ b.num = a.num
    · rw [if_pos h]
      show (m.fs.filter (notN b.num)).filter _ = _
      rw [List.filter_filter]
      congr 1
      funext o
      rw [List.all_cons]
      simp only [h, notN]
      by_cases q : o.num = b.num <;> simp [q]
    · rw [if_neg h]
      congr 1
      funext o
      rw [List.all_cons]
      simp [h]
theorem rise_one {fs : List FT} (h : Rise fs) {a b : FT} (ha : a ∈ fs) (hb : b ∈ fs) (e : a.num = b.num) : a = b := by
  obtain ⟨i, hi, rfl⟩ := List.mem_iff_getElem.1 ha
  obtain ⟨j, hj, rfl⟩ := List.mem_iff_getElem.1 hb
  rcases Nat.lt_trichotomy i j with q | q | q
  · have := h i j q hj hi
    omega
  · subst q
    rfl
  · have := h j i q hi hj
    omega
theorem oth_with {fs : List FT} (hr : Rise fs) {m : CM} {f : CF CM} (hh : ∀ o ∈ m.fs, hasF fs o.num = true) : putE f ((fs.foldl (othS (ownF fs f.num)) m).fs.foldl (putS f) ([], false)) = insM f (m.fs.filter (stayB fs f.num)) := by
  rw [putS_ins, List.nil_append, othS_fs, List.filter_filter]
  congr 1
  refine List.filter_congr fun o ho => ?_
  obtain ⟨hb, hbn⟩ := ownF_hasF (hh o ho)
  unfold stayB stayO
  by_cases hn : o.num = f.num
  · simp [hn]
  · have e1 : (o.num != f.num) = true := by simp [hn]
    rw [e1, Bool.true_and, Bool.true_and]
    rw [Bool.eq_iff_iff, List.all_eq_true]
    by_cases h4 : (ownF fs f.num).lab = 4
    · have han : (ownF fs f.num).num = f.num := by
        have hne : ownF fs f.num ≠ ftZ := by
          intro q
          rw [q] at h4
          exact absurd h4 (by decide)
        unfold ownF at hne ⊢
        cases hq : fs.find? (fun o => o.num == f.num) with
        | none => rw [hq] at hne; exact absurd rfl hne
        | some a => simpa using List.find?_some hq
      constructor
      · intro hall
        have := hall _ hb
        by_cases q1 : (ownF fs o.num).lab = 4
        · by_cases q2 : (ownF fs o.num).one = (ownF fs f.num).one
          · have q3 : ¬ (ownF fs o.num).num = (ownF fs f.num).num := by rw [hbn, han]; exact hn
            simp [h4, q1, q2, q3, hbn] at this
            exact absurd (by rw [hbn]; exact this) q3
          · have q2' : ((ownF fs f.num).one == (ownF fs o.num).one) = false := by simp; exact fun q => q2 q.symm
            simp [q2']
        · have q1' : ((ownF fs o.num).lab == 4) = false := by simp [q1]
          simp [q1']
      · intro hst b hbm
        by_cases q : o.num = b.num
        · have hbe : b = ownF fs o.num := rise_one hr hbm hb (by rw [hbn, q])
          subst hbe
          simp only [h4, beq_self_eq_true, Bool.true_and, Bool.not_eq_true'] at hst
          by_cases q1 : (ownF fs o.num).lab = 4
          · have q2 : ¬ (ownF fs o.num).one = (ownF fs f.num).one := by
              intro q2
              simp [q1, q2] at hst
            simp [q2]
          · simp [q1]
        · simp [q]
    · constructor
      · intro _
        have : ((ownF fs f.num).lab == 4) = false := by simp [h4]
        simp [this]
      · intro _ b _
        simp [h4]
end Go.Proofs.YtgephggcgopfgaaGreatDoor
