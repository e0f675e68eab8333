/-
  A value of a field.
  Two keys compared.
  Whether keys rise.
  A field of a type.
-/
import Derived.Test.YtnfdlnelfnigdaaGreatDoorCAW
import Derived.Deep.RegionHeld3
import Derived.Lib.Bytealg
import Derived.Lib.BytesEntry
namespace Go.Proofs.YtnfdlnelfnigdaaGreatDoor
open Go.RowKit
set_option maxRecDepth 1000000
set_option linter.unusedVariables false
set_option linter.unusedSimpArgs false
set_option maxHeartbeats 1000000
/-- A value of a field, but for what a message holds. -/
def valB (l : List TV) (o : FT) (v : CV CM) : Bool := if o.kind = 17 then (v.n == 0) && (((v.b.length : Int) == 0) && ((v.ms.length : Int) == 1)) else if o.kind = 16 then vfit 16 v.n v.b.length v.ms.length && (match l[o.ref.toNat]? with | some y => y.t.ss.any (symN v.n) | none => false) else scalarB o.kind v
theorem valIsTypedM (w : World) (l : List TV) (ta : Option Addr) (tc : Nat) (h : TbR w (.slice ta l.length tc) l) (o : FT) (hr : 0 ≤ o.ref ∧ o.ref.toNat < l.length) (Z : Nat → Prop) (d : Nat) (cs : List Value) (v : CV CM) (hv : ValE w Z (MsgE w Z d) cs v) : Calls Tryz.prog 142 #[.agg #[.slice ta l.length tc], .agg #[.string (strOfNums o.name), .int .i64 o.num, .int .i64 o.kind, .int .i64 o.ref, .int .i64 o.lab, .int .i64 o.one, .int .i64 o.key], .agg cs.toArray] w fun e w' => e = .returned (.bool (valB l o v)) ∧ Below w.heap.size w w' := by
  have HV := hid hv
  obtain ⟨ba, bc, ma, mc, rfl, g1, -, l1, l2, hu⟩ := val_open hv
  have m1 : (v.b.length : Int) ≤ 9223372036854775807 := by omega
  have m2 : (v.ms.length : Int) ≤ 9223372036854775807 := by omega
  clear hv
  by_cases h17 : o.kind = 17
  · have k1 : (o.kind == 17) = true := by simpa using h17
    have HX : Hid (valB l o v = ((v.n == 0) && (((v.b.length : Int) == 0) && ((v.ms.length : Int) == 1)))) := hid (by unfold valB; rw [if_pos h17])
    clear h hr HV
    go_enter Tryz.func142, Tryz.ntmps142
    go_wp2
    all_goals (go_ret; exact ⟨ret_bool (by rw [HX.out]; simp [*]), by exact blBy⟩)
  by_cases h16 : o.kind = 16
  · have k0 : (o.kind == 17) = false := by simpa using h17
    have k1 : (o.kind == 16) = true := by simpa using h16
    obtain ⟨j, hj⟩ := Int.eq_ofNat_of_zero_le hr.1
    have hjl : j < l.length := by have := hr.2; omega
    have ht : o.ref.toNat = j := by omega
    obtain ⟨_, _, el, l63⟩ := rowS_sl h.row
    clear el
    have m3 : (l.length : Int) ≤ 9223372036854775807 := by omega
    have k5 : (j : Int) < (l.length : Int) := by omega
    have HX : Hid (valB l o v = (vfit 16 v.n v.b.length v.ms.length && l[j].t.ss.any (symN v.n))) := hid (by unfold valB; rw [if_neg h17, if_pos h16, ht, List.getElem?_eq_getElem hjl])
    obtain ⟨tb, tof, rfl, hbl, c0, c1, c2, c3, c4, c5⟩ := row6 h.row hjl
    have HTY := hid (h.ty _ (List.getElem_mem hjl))
    have HF := hid fun W => fitsW 16 v.n ba ma v.b.length bc v.ms.length mc W hu.1 hu.2 (by omega) (by omega)
    generalize valB l o v = res at *
    generalize l[j] = y at *
    obtain ⟨a1, n1, a2, n2, a3, n3, a4, n4, e1, e2, e3, e4⟩ := shT_of HTY.out
    have ecy : cTV y = [.string (strOfNums y.t.name), .bool y.t.enum, .slice a1 y.t.fs.length n1, .slice a2 y.t.os.length n2, .slice a3 y.t.ss.length n3, .slice a4 y.t.rs.length n4] := by unfold cTV; rw [e1, e2, e3, e4]
    rw [e1] at c2
    rw [e2] at c3
    rw [e3] at c4
    rw [e4] at c5
    have HSY := hid fun W (hW : Below w.heap.size w W) => hasSymbolT W y (HTY.out.kept hW) v.n
    rw [ecy] at HSY
    generalize o.kind = kd at *
    generalize o.ref = rf at *
    subst h16 hj
    clear h hr HV g1 hu ht h17 e1 e2 e3 e4 ecy HTY k0 k1
    cases hq : vfit 16 v.n v.b.length v.ms.length with
    | false =>
      rw [hq, Bool.false_and] at HX
      rw [hq] at HF
      go_enter Tryz.func142, Tryz.ntmps142
      go_upto_region 5 with fail
      have Bwar : Hid (Blk (((w.alloc (.cells #[.slice (some ⟨tb, tof, none⟩) l.length tc] 68)).alloc (.cells #[.string (strOfNums o.name), .int .i64 o.num, .int .i64 16, .int .i64 (j : Int), .int .i64 o.lab, .int .i64 o.one, .int .i64 o.key] 77)).alloc (.cells #[.int .u64 v.n, .slice ba v.b.length bc, .slice ma v.ms.length mc] 26)) w.heap.size 68 #[.slice (some ⟨tb, tof, none⟩) l.length tc]) := hid (((Blk.new _ _ _).kept (below_alloc _)).kept (below_alloc _))
      have Bwao : Hid (Blk (((w.alloc (.cells #[.slice (some ⟨tb, tof, none⟩) l.length tc] 68)).alloc (.cells #[.string (strOfNums o.name), .int .i64 o.num, .int .i64 16, .int .i64 (j : Int), .int .i64 o.lab, .int .i64 o.one, .int .i64 o.key] 77)).alloc (.cells #[.int .u64 v.n, .slice ba v.b.length bc, .slice ma v.ms.length mc] 26)) (w.heap.size + 1) 77 #[.string (strOfNums o.name), .int .i64 o.num, .int .i64 16, .int .i64 (j : Int), .int .i64 o.lab, .int .i64 o.one, .int .i64 o.key]) := hid ((Blk.newAt (by simp)).kept (below_alloc _))
      have Bwav : Hid (Blk (((w.alloc (.cells #[.slice (some ⟨tb, tof, none⟩) l.length tc] 68)).alloc (.cells #[.string (strOfNums o.name), .int .i64 o.num, .int .i64 16, .int .i64 (j : Int), .int .i64 o.lab, .int .i64 o.one, .int .i64 o.key] 77)).alloc (.cells #[.int .u64 v.n, .slice ba v.b.length bc, .slice ma v.ms.length mc] 26)) (w.heap.size + 1 + 1) 26 #[.int .u64 v.n, .slice ba v.b.length bc, .slice ma v.ms.length mc]) := hid (Blk.newAt (by simp))
      have Hwa : Hid (Below w.heap.size w (((w.alloc (.cells #[.slice (some ⟨tb, tof, none⟩) l.length tc] 68)).alloc (.cells #[.string (strOfNums o.name), .int .i64 o.num, .int .i64 16, .int .i64 (j : Int), .int .i64 o.lab, .int .i64 o.one, .int .i64 o.key] 77)).alloc (.cells #[.int .u64 v.n, .slice ba v.b.length bc, .slice ma v.ms.length mc] 26))) := hid (by exact blBy)
      generalize (((w.alloc (.cells #[.slice (some ⟨tb, tof, none⟩) l.length tc] 68)).alloc (.cells #[.string (strOfNums o.name), .int .i64 o.num, .int .i64 16, .int .i64 (j : Int), .int .i64 o.lab, .int .i64 o.one, .int .i64 o.key] 77)).alloc (.cells #[.int .u64 v.n, .slice ba v.b.length bc, .slice ma v.ms.length mc] 26)) = wa at *
      refine wp_region_held_drew (S := (fun W => (∀ k, W.cell? ⟨w.heap.size, k, none⟩ = #[.slice (some ⟨tb, tof, none⟩) l.length tc][k]?) ∧ (∀ k, W.cell? ⟨w.heap.size + 1, k, none⟩ = #[.string (strOfNums o.name), .int .i64 o.num, .int .i64 16, .int .i64 (j : Int), .int .i64 o.lab, .int .i64 o.one, .int .i64 o.key][k]?) ∧ (∀ k, W.cell? ⟨w.heap.size + 1 + 1, k, none⟩ = #[.int .u64 v.n, .slice ba v.b.length bc, .slice ma v.ms.length mc][k]?) ∧ W.cell? ⟨tb, tof + j * 6, none⟩ = some (.string (strOfNums y.t.name)) ∧ W.cell? ⟨tb, tof + j * 6 + 1, none⟩ = some (.bool y.t.enum) ∧ W.cell? ⟨tb, tof + j * 6 + 2, none⟩ = some (.slice a1 y.t.fs.length n1) ∧ W.cell? ⟨tb, tof + j * 6 + 3, none⟩ = some (.slice a2 y.t.os.length n2) ∧ W.cell? ⟨tb, tof + j * 6 + 4, none⟩ = some (.slice a3 y.t.ss.length n3) ∧ W.cell? ⟨tb, tof + j * 6 + 5, none⟩ = some (.slice a4 y.t.rs.length n4))) (by kernel_rfl) ?_ (fun hHeld => ?_)
      · exact ⟨(Bwar.out.kept (below_drew1 _)).cellF, (Bwao.out.kept (below_drew1 _)).cellF, (Bwav.out.kept (below_drew1 _)).cellF, cell_below c0 (below_trans Hwa.out (below_drew1 _)), cell_below c1 (below_trans Hwa.out (below_drew1 _)), cell_below c2 (below_trans Hwa.out (below_drew1 _)), cell_below c3 (below_trans Hwa.out (below_drew1 _)), cell_below c4 (below_trans Hwa.out (below_drew1 _)), cell_below c5 (below_trans Hwa.out (below_drew1 _))⟩
      refine wpAnyH_take (i := 0) (v := ?_) rfl (by kernel_rfl) (by kernel_rfl) (by kernel_rfl) (fun _ _ _ h => h) (Or.inl ⟨by rfl, ?_⟩) (by assumption) ?_
      rotate_left
      · (intro w hSw; (try dsimp only at hSw); go_simp; (try with_reducible rfl))
      try simp only [Act.put, List.getElem_toArray, List.getElem_cons_succ, List.getElem_cons_zero, List.setIfInBounds_toArray, List.set_cons_zero, List.set_cons_succ]
      refine wpAnyH_ready (rs := [1]) (by kernel_rfl) (by simp) ?_
      refine AllReadyH.cons rfl (fun K hK => ?_) AllReadyH.nil
      go_simp
      go_wp2_with (go_at_call 174; refine (HF.out _).mono ?_; rintro e u1 ⟨rfl, hbx⟩; have HXB : Hid (Below wa.heap.size wa u1) := hid (bl_then (below_drew1 _) hbx); clear hbx)
      have Bu1r : Hid (Blk u1 w.heap.size 68 #[.slice (some ⟨tb, tof, none⟩) l.length tc]) := hid (Bwar.out.kept HXB.out)
      have Bu1o : Hid (Blk u1 (w.heap.size + 1) 77 #[.string (strOfNums o.name), .int .i64 o.num, .int .i64 16, .int .i64 (j : Int), .int .i64 o.lab, .int .i64 o.one, .int .i64 o.key]) := hid (Bwao.out.kept HXB.out)
      have Bu1v : Hid (Blk u1 (w.heap.size + 1 + 1) 26 #[.int .u64 v.n, .slice ba v.b.length bc, .slice ma v.ms.length mc]) := hid (Bwav.out.kept HXB.out)
      have Hu1 : Hid (Below w.heap.size w u1) := hid (below_trans Hwa.out HXB.out)
      refine hK.out _ _ ?_ (fun hHeld => ?_)
      · first | assumption | exact ⟨Bu1r.out.cellF, Bu1o.out.cellF, Bu1v.out.cellF, cell_below c0 Hu1.out, cell_below c1 Hu1.out, cell_below c2 Hu1.out, cell_below c3 Hu1.out, cell_below c4 Hu1.out, cell_below c5 Hu1.out⟩
      clear hK K
      try simp only [Act.put, List.getElem_toArray, List.getElem_cons_succ, List.getElem_cons_zero, List.setIfInBounds_toArray, List.set_cons_zero, List.set_cons_succ]
      refine wpAnyH_take (i := 2) (v := ?_) rfl (by kernel_rfl) (by kernel_rfl) (by kernel_rfl) (fun _ _ _ h => h) (Or.inl ⟨by rfl, ?_⟩) (by assumption) ?_
      rotate_left
      · (intro w hSw; (try dsimp only at hSw); go_simp; (try with_reducible rfl))
      try simp only [Act.put, List.getElem_toArray, List.getElem_cons_succ, List.getElem_cons_zero, List.setIfInBounds_toArray, List.set_cons_zero, List.set_cons_succ]
      refine wpAnyH_take (i := 3) (v := undef) rfl (by kernel_rfl) (by kernel_rfl) (by kernel_rfl) (fun _ _ _ h => h) (Or.inr ⟨by kernel_rfl, rfl⟩) (by assumption) ?_
      try simp only [Act.put, List.getElem_toArray, List.getElem_cons_succ, List.getElem_cons_zero, List.setIfInBounds_toArray, List.set_cons_zero, List.set_cons_succ]
      refine wpAnyH_take (i := 4) (v := undef) rfl (by kernel_rfl) (by kernel_rfl) (by kernel_rfl) (fun _ _ _ h => h) (Or.inr ⟨by kernel_rfl, rfl⟩) (by assumption) ?_
      try simp only [Act.put, List.getElem_toArray, List.getElem_cons_succ, List.getElem_cons_zero, List.setIfInBounds_toArray, List.set_cons_zero, List.set_cons_succ]
      refine wpAnyH_take (i := 5) (v := undef) rfl (by kernel_rfl) (by kernel_rfl) (by kernel_rfl) (fun _ _ _ h => h) (Or.inr ⟨by kernel_rfl, rfl⟩) (by assumption) ?_
      try simp only [Act.put, List.getElem_toArray, List.getElem_cons_succ, List.getElem_cons_zero, List.setIfInBounds_toArray, List.set_cons_zero, List.set_cons_succ]
      refine wpAnyH_take (i := 6) (v := undef) rfl (by kernel_rfl) (by kernel_rfl) (by kernel_rfl) (fun _ _ _ h => h) (Or.inr ⟨by kernel_rfl, rfl⟩) (by assumption) ?_
      try simp only [Act.put, List.getElem_toArray, List.getElem_cons_succ, List.getElem_cons_zero, List.setIfInBounds_toArray, List.set_cons_zero, List.set_cons_succ]
      refine wpAnyH_take (i := 7) (v := undef) rfl (by kernel_rfl) (by kernel_rfl) (by kernel_rfl) (fun _ _ _ h => h) (Or.inr ⟨by kernel_rfl, rfl⟩) (by assumption) ?_
      try simp only [Act.put, List.getElem_toArray, List.getElem_cons_succ, List.getElem_cons_zero, List.setIfInBounds_toArray, List.set_cons_zero, List.set_cons_succ]
      refine wpAnyH_take (i := 8) (v := undef) rfl (by kernel_rfl) (by kernel_rfl) (by kernel_rfl) (fun _ _ _ h => h) (Or.inr ⟨by kernel_rfl, rfl⟩) (by assumption) ?_
      try simp only [Act.put, List.getElem_toArray, List.getElem_cons_succ, List.getElem_cons_zero, List.setIfInBounds_toArray, List.set_cons_zero, List.set_cons_succ]
      refine wpAnyH_take (i := 9) (v := undef) rfl (by kernel_rfl) (by kernel_rfl) (by kernel_rfl) (fun _ _ _ h => h) (Or.inr ⟨by kernel_rfl, rfl⟩) (by assumption) ?_
      try simp only [Act.put, List.getElem_toArray, List.getElem_cons_succ, List.getElem_cons_zero, List.setIfInBounds_toArray, List.set_cons_zero, List.set_cons_succ]
      refine wpAnyH_take (i := 10) (v := undef) rfl (by kernel_rfl) (by kernel_rfl) (by kernel_rfl) (fun _ _ _ h => h) (Or.inr ⟨by kernel_rfl, rfl⟩) (by assumption) ?_
      try simp only [Act.put, List.getElem_toArray, List.getElem_cons_succ, List.getElem_cons_zero, List.setIfInBounds_toArray, List.set_cons_zero, List.set_cons_succ]
      refine wpAnyH_take (i := 11) (v := undef) rfl (by kernel_rfl) (by kernel_rfl) (by kernel_rfl) (fun _ _ _ h => h) (Or.inr ⟨by kernel_rfl, rfl⟩) (by assumption) ?_
      try simp only [Act.put, List.getElem_toArray, List.getElem_cons_succ, List.getElem_cons_zero, List.setIfInBounds_toArray, List.set_cons_zero, List.set_cons_succ]
      refine wpAnyH_take (i := 12) (v := ?_) rfl (by kernel_rfl) (by kernel_rfl) (by kernel_rfl) (fun _ _ _ h => h) (Or.inl ⟨by rfl, ?_⟩) (by assumption) ?_
      rotate_left
      · (intro w hSw; (try dsimp only at hSw); go_simp; (try with_reducible rfl))
      try simp only [Act.put, List.getElem_toArray, List.getElem_cons_succ, List.getElem_cons_zero, List.setIfInBounds_toArray, List.set_cons_zero, List.set_cons_succ]
      refine wpAnyH_take (i := 13) (v := ?_) rfl (by kernel_rfl) (by kernel_rfl) (by kernel_rfl) (fun _ _ _ h => h) (Or.inl ⟨by rfl, ?_⟩) (by assumption) ?_
      rotate_left
      · (intro w hSw; (try dsimp only at hSw); go_simp; (try with_reducible rfl))
      try simp only [Act.put, List.getElem_toArray, List.getElem_cons_succ, List.getElem_cons_zero, List.setIfInBounds_toArray, List.set_cons_zero, List.set_cons_succ]
      refine wpAnyH_done (by kernel_rfl) ?_ _
      go_wp2
      go_ret
      exact ⟨ret_bool HX.out.symm, by have := Hu1.out; exact blBy⟩
    | true =>
      rw [hq, Bool.true_and] at HX
      rw [hq] at HF
      go_enter Tryz.func142, Tryz.ntmps142
      go_upto_region 5 with fail
      have Bwar : Hid (Blk (((w.alloc (.cells #[.slice (some ⟨tb, tof, none⟩) l.length tc] 68)).alloc (.cells #[.string (strOfNums o.name), .int .i64 o.num, .int .i64 16, .int .i64 (j : Int), .int .i64 o.lab, .int .i64 o.one, .int .i64 o.key] 77)).alloc (.cells #[.int .u64 v.n, .slice ba v.b.length bc, .slice ma v.ms.length mc] 26)) w.heap.size 68 #[.slice (some ⟨tb, tof, none⟩) l.length tc]) := hid (((Blk.new _ _ _).kept (below_alloc _)).kept (below_alloc _))
      have Bwao : Hid (Blk (((w.alloc (.cells #[.slice (some ⟨tb, tof, none⟩) l.length tc] 68)).alloc (.cells #[.string (strOfNums o.name), .int .i64 o.num, .int .i64 16, .int .i64 (j : Int), .int .i64 o.lab, .int .i64 o.one, .int .i64 o.key] 77)).alloc (.cells #[.int .u64 v.n, .slice ba v.b.length bc, .slice ma v.ms.length mc] 26)) (w.heap.size + 1) 77 #[.string (strOfNums o.name), .int .i64 o.num, .int .i64 16, .int .i64 (j : Int), .int .i64 o.lab, .int .i64 o.one, .int .i64 o.key]) := hid ((Blk.newAt (by simp)).kept (below_alloc _))
      have Bwav : Hid (Blk (((w.alloc (.cells #[.slice (some ⟨tb, tof, none⟩) l.length tc] 68)).alloc (.cells #[.string (strOfNums o.name), .int .i64 o.num, .int .i64 16, .int .i64 (j : Int), .int .i64 o.lab, .int .i64 o.one, .int .i64 o.key] 77)).alloc (.cells #[.int .u64 v.n, .slice ba v.b.length bc, .slice ma v.ms.length mc] 26)) (w.heap.size + 1 + 1) 26 #[.int .u64 v.n, .slice ba v.b.length bc, .slice ma v.ms.length mc]) := hid (Blk.newAt (by simp))
      have Hwa : Hid (Below w.heap.size w (((w.alloc (.cells #[.slice (some ⟨tb, tof, none⟩) l.length tc] 68)).alloc (.cells #[.string (strOfNums o.name), .int .i64 o.num, .int .i64 16, .int .i64 (j : Int), .int .i64 o.lab, .int .i64 o.one, .int .i64 o.key] 77)).alloc (.cells #[.int .u64 v.n, .slice ba v.b.length bc, .slice ma v.ms.length mc] 26))) := hid (by exact blBy)
      generalize (((w.alloc (.cells #[.slice (some ⟨tb, tof, none⟩) l.length tc] 68)).alloc (.cells #[.string (strOfNums o.name), .int .i64 o.num, .int .i64 16, .int .i64 (j : Int), .int .i64 o.lab, .int .i64 o.one, .int .i64 o.key] 77)).alloc (.cells #[.int .u64 v.n, .slice ba v.b.length bc, .slice ma v.ms.length mc] 26)) = wa at *
      refine wp_region_held_drew (S := (fun W => (∀ k, W.cell? ⟨w.heap.size, k, none⟩ = #[.slice (some ⟨tb, tof, none⟩) l.length tc][k]?) ∧ (∀ k, W.cell? ⟨w.heap.size + 1, k, none⟩ = #[.string (strOfNums o.name), .int .i64 o.num, .int .i64 16, .int .i64 (j : Int), .int .i64 o.lab, .int .i64 o.one, .int .i64 o.key][k]?) ∧ (∀ k, W.cell? ⟨w.heap.size + 1 + 1, k, none⟩ = #[.int .u64 v.n, .slice ba v.b.length bc, .slice ma v.ms.length mc][k]?) ∧ W.cell? ⟨tb, tof + j * 6, none⟩ = some (.string (strOfNums y.t.name)) ∧ W.cell? ⟨tb, tof + j * 6 + 1, none⟩ = some (.bool y.t.enum) ∧ W.cell? ⟨tb, tof + j * 6 + 2, none⟩ = some (.slice a1 y.t.fs.length n1) ∧ W.cell? ⟨tb, tof + j * 6 + 3, none⟩ = some (.slice a2 y.t.os.length n2) ∧ W.cell? ⟨tb, tof + j * 6 + 4, none⟩ = some (.slice a3 y.t.ss.length n3) ∧ W.cell? ⟨tb, tof + j * 6 + 5, none⟩ = some (.slice a4 y.t.rs.length n4))) (by kernel_rfl) ?_ (fun hHeld => ?_)
      · exact ⟨(Bwar.out.kept (below_drew1 _)).cellF, (Bwao.out.kept (below_drew1 _)).cellF, (Bwav.out.kept (below_drew1 _)).cellF, cell_below c0 (below_trans Hwa.out (below_drew1 _)), cell_below c1 (below_trans Hwa.out (below_drew1 _)), cell_below c2 (below_trans Hwa.out (below_drew1 _)), cell_below c3 (below_trans Hwa.out (below_drew1 _)), cell_below c4 (below_trans Hwa.out (below_drew1 _)), cell_below c5 (below_trans Hwa.out (below_drew1 _))⟩
      refine wpAnyH_take (i := 0) (v := ?_) rfl (by kernel_rfl) (by kernel_rfl) (by kernel_rfl) (fun _ _ _ h => h) (Or.inl ⟨by rfl, ?_⟩) (by assumption) ?_
      rotate_left
      · (intro w hSw; (try dsimp only at hSw); go_simp; (try with_reducible rfl))
      try simp only [Act.put, List.getElem_toArray, List.getElem_cons_succ, List.getElem_cons_zero, List.setIfInBounds_toArray, List.set_cons_zero, List.set_cons_succ]
      refine wpAnyH_ready (rs := [1]) (by kernel_rfl) (by simp) ?_
      refine AllReadyH.cons rfl (fun K hK => ?_) AllReadyH.nil
      go_simp
      go_wp2_with (go_at_call 174; refine (HF.out _).mono ?_; rintro e u1 ⟨rfl, hbx⟩; have HXB : Hid (Below wa.heap.size wa u1) := hid (bl_then (below_drew1 _) hbx); clear hbx)
      have Bu1r : Hid (Blk u1 w.heap.size 68 #[.slice (some ⟨tb, tof, none⟩) l.length tc]) := hid (Bwar.out.kept HXB.out)
      have Bu1o : Hid (Blk u1 (w.heap.size + 1) 77 #[.string (strOfNums o.name), .int .i64 o.num, .int .i64 16, .int .i64 (j : Int), .int .i64 o.lab, .int .i64 o.one, .int .i64 o.key]) := hid (Bwao.out.kept HXB.out)
      have Bu1v : Hid (Blk u1 (w.heap.size + 1 + 1) 26 #[.int .u64 v.n, .slice ba v.b.length bc, .slice ma v.ms.length mc]) := hid (Bwav.out.kept HXB.out)
      have Hu1 : Hid (Below w.heap.size w u1) := hid (below_trans Hwa.out HXB.out)
      refine hK.out _ _ ?_ (fun hHeld => ?_)
      · first | assumption | exact ⟨Bu1r.out.cellF, Bu1o.out.cellF, Bu1v.out.cellF, cell_below c0 Hu1.out, cell_below c1 Hu1.out, cell_below c2 Hu1.out, cell_below c3 Hu1.out, cell_below c4 Hu1.out, cell_below c5 Hu1.out⟩
      clear hK K
      try simp only [Act.put, List.getElem_toArray, List.getElem_cons_succ, List.getElem_cons_zero, List.setIfInBounds_toArray, List.set_cons_zero, List.set_cons_succ]
      refine wpAnyH_take (i := 2) (v := ?_) rfl (by kernel_rfl) (by kernel_rfl) (by kernel_rfl) (fun _ _ _ h => h) (Or.inl ⟨by rfl, ?_⟩) (by assumption) ?_
      rotate_left
      · (intro w hSw; (try dsimp only at hSw); go_simp; (try with_reducible rfl))
      try simp only [Act.put, List.getElem_toArray, List.getElem_cons_succ, List.getElem_cons_zero, List.setIfInBounds_toArray, List.set_cons_zero, List.set_cons_succ]
      refine wpAnyH_take (i := 3) (v := ?_) rfl (by kernel_rfl) (by kernel_rfl) (by kernel_rfl) (fun _ _ _ h => h) (Or.inl ⟨by rfl, ?_⟩) (by assumption) ?_
      rotate_left
      · (intro w hSw; (try dsimp only at hSw); go_simp; (try with_reducible rfl))
      try simp only [Act.put, List.getElem_toArray, List.getElem_cons_succ, List.getElem_cons_zero, List.setIfInBounds_toArray, List.set_cons_zero, List.set_cons_succ]
      refine wpAnyH_take (i := 4) (v := ?_) rfl (by kernel_rfl) (by kernel_rfl) (by kernel_rfl) (fun _ _ _ h => h) (Or.inl ⟨by rfl, ?_⟩) (by assumption) ?_
      rotate_left
      · (intro w hSw; (try dsimp only at hSw); go_simp; (try with_reducible rfl))
      try simp only [Act.put, List.getElem_toArray, List.getElem_cons_succ, List.getElem_cons_zero, List.setIfInBounds_toArray, List.set_cons_zero, List.set_cons_succ]
      refine wpAnyH_take (i := 5) (v := ?_) rfl (by kernel_rfl) (by kernel_rfl) (by kernel_rfl) (fun _ _ _ h => h) (Or.inl ⟨by rfl, ?_⟩) (by assumption) ?_
      rotate_left
      · (intro w hSw; (try dsimp only at hSw); go_simp; (try with_reducible rfl))
      try simp only [Act.put, List.getElem_toArray, List.getElem_cons_succ, List.getElem_cons_zero, List.setIfInBounds_toArray, List.set_cons_zero, List.set_cons_succ]
      refine wpAnyH_take (i := 6) (v := ?_) rfl (by kernel_rfl) (by kernel_rfl) (by kernel_rfl) (fun _ _ _ h => h) (Or.inl ⟨by rfl, ?_⟩) (by assumption) ?_
      rotate_left
      · (intro w hSw; (try dsimp only at hSw); go_simp; (try with_reducible rfl))
      try simp only [Act.put, List.getElem_toArray, List.getElem_cons_succ, List.getElem_cons_zero, List.setIfInBounds_toArray, List.set_cons_zero, List.set_cons_succ]
      refine wpAnyH_take (i := 7) (v := ?_) rfl (by kernel_rfl) (by kernel_rfl) (by kernel_rfl) (fun _ _ _ h => h) (Or.inl ⟨by rfl, ?_⟩) (by assumption) ?_
      rotate_left
      · (intro w hSw; (try dsimp only at hSw); go_simp; (try with_reducible rfl))
      try simp only [Act.put, List.getElem_toArray, List.getElem_cons_succ, List.getElem_cons_zero, List.setIfInBounds_toArray, List.set_cons_zero, List.set_cons_succ]
      refine wpAnyH_take (i := 8) (v := ?_) rfl (by kernel_rfl) (by kernel_rfl) (by kernel_rfl) (fun _ _ _ h => h) (Or.inl ⟨by rfl, ?_⟩) (by assumption) ?_
      rotate_left
      · (intro w hSw; (try dsimp only at hSw); go_simp; (try with_reducible rfl))
      try simp only [Act.put, List.getElem_toArray, List.getElem_cons_succ, List.getElem_cons_zero, List.setIfInBounds_toArray, List.set_cons_zero, List.set_cons_succ]
      refine wpAnyH_take (i := 9) (v := ?_) rfl (by kernel_rfl) (by kernel_rfl) (by kernel_rfl) (fun _ _ _ h => h) (Or.inl ⟨by rfl, ?_⟩) (by assumption) ?_
      rotate_left
      · (intro w hSw; (try dsimp only at hSw); go_simp; (try with_reducible rfl))
      try simp only [Act.put, List.getElem_toArray, List.getElem_cons_succ, List.getElem_cons_zero, List.setIfInBounds_toArray, List.set_cons_zero, List.set_cons_succ]
      refine wpAnyH_take (i := 10) (v := ?_) rfl (by kernel_rfl) (by kernel_rfl) (by kernel_rfl) (fun _ _ _ h => h) (Or.inl ⟨by rfl, ?_⟩) (by assumption) ?_
      rotate_left
      · (intro w hSw; (try dsimp only at hSw); go_simp; (try with_reducible rfl))
      try simp only [Act.put, List.getElem_toArray, List.getElem_cons_succ, List.getElem_cons_zero, List.setIfInBounds_toArray, List.set_cons_zero, List.set_cons_succ]
      refine wpAnyH_ready (rs := [11]) (by kernel_rfl) (by simp) ?_
      refine AllReadyH.cons rfl (fun K hK => ?_) AllReadyH.nil
      go_simp
      go_wp2_with (go_at_call 175; refine (HSY.out _ (by have := Hu1.out; exact blBy)).mono ?_; rintro e u2 ⟨rfl, hbx⟩; have HXC : Hid (Below u1.heap.size u1 u2) := hid (by first | exact hbx | exact bl_then (below_drew1 _) hbx); clear hbx)
      have Bu2r : Hid (Blk u2 w.heap.size 68 #[.slice (some ⟨tb, tof, none⟩) l.length tc]) := hid (Bu1r.out.kept HXC.out)
      have Bu2o : Hid (Blk u2 (w.heap.size + 1) 77 #[.string (strOfNums o.name), .int .i64 o.num, .int .i64 16, .int .i64 (j : Int), .int .i64 o.lab, .int .i64 o.one, .int .i64 o.key]) := hid (Bu1o.out.kept HXC.out)
      have Bu2v : Hid (Blk u2 (w.heap.size + 1 + 1) 26 #[.int .u64 v.n, .slice ba v.b.length bc, .slice ma v.ms.length mc]) := hid (Bu1v.out.kept HXC.out)
      have Hu2 : Hid (Below w.heap.size w u2) := hid (below_trans Hu1.out HXC.out)
      refine hK.out _ _ ?_ (fun hHeld => ?_)
      · first | assumption | exact ⟨Bu2r.out.cellF, Bu2o.out.cellF, Bu2v.out.cellF, cell_below c0 Hu2.out, cell_below c1 Hu2.out, cell_below c2 Hu2.out, cell_below c3 Hu2.out, cell_below c4 Hu2.out, cell_below c5 Hu2.out⟩
      clear hK K
      try simp only [Act.put, List.getElem_toArray, List.getElem_cons_succ, List.getElem_cons_zero, List.setIfInBounds_toArray, List.set_cons_zero, List.set_cons_succ]
      refine wpAnyH_take (i := 12) (v := ?_) rfl (by kernel_rfl) (by kernel_rfl) (by kernel_rfl) (fun _ _ _ h => h) (Or.inl ⟨by rfl, ?_⟩) (by assumption) ?_
      rotate_left
      · (intro w hSw; (try dsimp only at hSw); go_simp; (try with_reducible rfl))
      try simp only [Act.put, List.getElem_toArray, List.getElem_cons_succ, List.getElem_cons_zero, List.setIfInBounds_toArray, List.set_cons_zero, List.set_cons_succ]
      refine wpAnyH_take (i := 13) (v := ?_) rfl (by kernel_rfl) (by kernel_rfl) (by kernel_rfl) (fun _ _ _ h => h) (Or.inl ⟨by rfl, ?_⟩) (by assumption) ?_
      rotate_left
      · (intro w hSw; (try dsimp only at hSw); go_simp; (try with_reducible rfl))
      try simp only [Act.put, List.getElem_toArray, List.getElem_cons_succ, List.getElem_cons_zero, List.setIfInBounds_toArray, List.set_cons_zero, List.set_cons_succ]
      refine wpAnyH_done (by kernel_rfl) ?_ _
      go_wp2
      go_ret
      exact ⟨ret_bool HX.out.symm, by have := Hu2.out; exact blBy⟩
  · have k0 : (o.kind == 17) = false := by simpa using h17
    have k1 : (o.kind == 16) = false := by simpa using h16
    have HX : Hid (valB l o v = scalarB o.kind v) := hid (by unfold valB; rw [if_neg h17, if_neg h16])
    have HS := hid fun W (hW : Below w.heap.size w W) => isScalarM W Z d o.kind [.int .u64 v.n, .slice ba v.b.length bc, .slice ma v.ms.length mc] v (HV.out.kept hW)
    clear h hr HV
    go_enter Tryz.func142, Tryz.ntmps142
    go_wp2_with fail
    refine (HS.out _ (by exact blBy)).mono ?_
    rintro e w1 ⟨rfl, hb1⟩
    have hbz : Hid (Below w.heap.size w w1) := hid (bl_then (by exact blBy) hb1)
    clear hb1
    go_wp2
    go_ret
    exact ⟨ret_bool HX.out.symm, hbz.out⟩
set_option maxHeartbeats 4000000
structure Reads (w : World) (a : Option Addr) (len cap : Nat) (xs : List Int) : Prop where
  length : xs.length = len
  le : len ≤ cap
  max : cap ≤ 9223372036854775807
  bd : ∀ i, 0 ≤ xs.getD i 0 ∧ xs.getD i 0 ≤ 255
  cells : (len = 0 ∧ (a = none → cap = 0)) ∨ ∃ b off, a = some ⟨b, off, none⟩ ∧ ∀ i, i < len → w.cell? ⟨b, off + i, none⟩ = some (.int .u8 (xs.getD i 0))
theorem bd_mem {xs : List Int} (h : ∀ i, 0 ≤ xs.getD i 0 ∧ xs.getD i 0 ≤ 255) : ∀ x ∈ xs, 0 ≤ x ∧ x ≤ 255 := by
  intro x hx
  obtain ⟨i, hi, rfl⟩ := List.mem_iff_getElem.1 hx
  have := h i
  simpa [hi] using this
theorem bd_get {xs : List Int} (h : ∀ x ∈ xs, 0 ≤ x ∧ x ≤ 255) : ∀ i, 0 ≤ xs.getD i 0 ∧ xs.getD i 0 ≤ 255 := by
  intro i
  by_cases hi : i < xs.length
  · have := h xs[i] (List.getElem_mem hi)
    simpa [hi] using this
  · simp [hi]
theorem reads_kept {w w' : World} {a : Option Addr} {len cap : Nat} {xs : List Int} (h : Reads w a len cap xs) (hb : Below w.heap.size w w') : Reads w' a len cap xs := by
  refine ⟨h.length, h.le, h.max, h.bd, ?_⟩
  rcases h.cells with h0 | ⟨b, off, rfl, hc⟩
  · exact .inl h0
  · exact .inr ⟨b, off, rfl, fun i hi => by rw [hb.cell (p := ⟨b, off + i, none⟩) (World.block_lt_of_cell? _ _ (hc i hi))]; exact hc i hi⟩
theorem ByE.reads {w : World} {Z : Nat → Prop} {a : Option Addr} {n c : Nat} {b : List Int} (h : ByE w Z (.slice a n c) b) : Reads w a b.length c b := by
  obtain ⟨⟨a', c', e, hv⟩, hb, -⟩ := h
  cases e
  refine ⟨rfl, hv.le, hv.max, bd_get hb, ?_⟩
  rcases hv.cells with h0 | ⟨p, off, rfl, -, hc⟩
  · exact .inl h0
  · exact .inr ⟨p, off, rfl, fun i hi => hc i _ (by simp [hi])⟩
def kneg (k : Int) : Bool := decide (k = 2 ∨ k = 3 ∨ k = 6 ∨ k = 7 ∨ k = 10 ∨ k = 11)
def sgn (n : Int) : Int := if n < 9223372036854775808 then n else n - 18446744073709551616
theorem wrap64_sgn (n : Int) (h0 : 0 ≤ n) (h1 : n < 18446744073709551616) : wrap64 n = sgn n := by
  unfold sgn wrap64
  split <;> omega
theorem kneg_no {k : Int} (h : k < 1 ∨ 17 < k) : kneg k = false := by unfold kneg; simp; omega
theorem negW (k : Int) (w : World) : Calls Tryz.prog 200 #[.int .i64 k] w fun e w' => e = .returned (.bool (kneg k)) ∧ w = w' := by
  rcases kinds k with rfl | rfl | rfl | rfl | rfl | rfl | rfl | rfl | rfl | rfl | rfl | rfl | rfl | rfl | rfl | rfl | rfl | h | h
  iterate 17 (next => go_enter Tryz.func200, Tryz.ntmps200; go_wp2; go_ret; exact ⟨rfl, rfl⟩)
  · obtain ⟨e1, e2, e3, e4, e5, e6, e7, e8, e9, e10, e11, e12, e13, e14, e15, e16, e17⟩ := noKind (.inl h)
    have H : Hid (Ending.returned (.bool false) = .returned (.bool (kneg k))) := hid (ret_bool (kneg_no (.inl h)).symm)
    clear h
    go_enter Tryz.func200, Tryz.ntmps200
    go_wp2
    go_ret
    exact ⟨H.out, rfl⟩
  · obtain ⟨e1, e2, e3, e4, e5, e6, e7, e8, e9, e10, e11, e12, e13, e14, e15, e16, e17⟩ := noKind (.inr h)
    have H : Hid (Ending.returned (.bool false) = .returned (.bool (kneg k))) := hid (ret_bool (kneg_no (.inr h)).symm)
    clear h
    go_enter Tryz.func200, Tryz.ntmps200
    go_wp2
    go_ret
    exact ⟨H.out, rfl⟩
def cmpX : List Int → List Int → Int
  | [], [] => 0
  | [], _ :: _ => -1
  | _ :: _, [] => 1
  | a :: l, b :: r => if a < b then -1 else if b < a then 1 else cmpX l r
def cmpI (a b : Int) : Int := if a < b then -1 else if b < a then 1 else 0
def u8s (xs : List Int) : List UInt8 := xs.map fun n => UInt8.ofNat n.toNat
theorem u8_lt {x y : Int} (hx : 0 ≤ x ∧ x ≤ 255) (hy : 0 ≤ y ∧ y ≤ 255) : (UInt8.ofNat x.toNat < UInt8.ofNat y.toNat) ↔ x < y := by
  rw [UInt8.lt_iff_toNat_lt]
  simp only [UInt8.toNat_ofNat']
  omega
theorem cmp_u8 : ∀ (xs ys : List Int), (∀ x ∈ xs, 0 ≤ x ∧ x ≤ 255) → (∀ y ∈ ys, 0 ≤ y ∧ y ≤ 255) → Lib.compareBytes (u8s xs) (u8s ys) = cmpX xs ys
  | [], [], _, _ => rfl
  | [], _ :: _, _, _ => rfl
  | _ :: _, [], _, _ => rfl
  | x :: xs, y :: ys, hx, hy => by
    have h1 := u8_lt (hx x (by simp)) (hy y (by simp))
    have h2 := u8_lt (hy y (by simp)) (hx x (by simp))
    have ih := cmp_u8 xs ys (fun z hz => hx z (by simp [hz])) (fun z hz => hy z (by simp [hz]))
    unfold u8s at ih ⊢
    simp only [List.map_cons, Lib.compareBytes, cmpX, h1, h2, ih]
theorem run_bytesOf {w : World} {a : Option Addr} {len cap : Nat} {xs : List Int} (h : Reads w a len cap xs) : (Extern.Bytes.bytesOf (.slice a len cap)).run Tryz.prog w = .ok ⟨(u8s xs).toArray⟩ w := by
  have hlen := h.length
  rcases h.cells with ⟨h0, _⟩ | ⟨b, off, rfl, hc⟩
  · subst h0
    have hx : xs = [] := List.eq_nil_of_length_eq_zero hlen
    subst hx
    cases a with
    | none => rfl
    | some x => rfl
  · have hl := Lib.run_loadBytesX (P := Tryz.prog) w xs ⟨b, off, none⟩ .empty (fun j x hj => by
      have hjl : j < xs.length := (List.getElem?_eq_some_iff.1 hj).1
      have e : (⟨b, off, none⟩ : Addr).add j = ⟨b, off + j, none⟩ := by unfold Addr.add; split <;> simp_all
      rw [e, hc j (by omega), List.getD_eq_getElem?_getD, hj]
      rfl)
    rw [hlen] at hl
    show Sem.run Tryz.prog (Extern.Bytes.loadBytes ⟨b, off, none⟩ len .empty) w = _
    rw [hl]
    have e : (ByteArray.empty.data ++ (Lib.bytesOf xs).toArray) = (u8s xs).toArray := by simp [ByteArray.empty, ByteArray.emptyWithCapacity, Lib.bytesOf, u8s]; rfl
    rw [e]
theorem bytesCmpW (a1 a2 : Option Addr) (l1 c1 l2 c2 : Nat) (xs ys : List Int) (w : World) (h1 : Reads w a1 l1 c1 xs) (h2 : Reads w a2 l2 c2 ys) :
    Calls Tryz.prog 199 #[.slice a1 l1 c1, .slice a2 l2 c2] w fun e w' => e = .returned (.int .i64 (cmpX xs ys)) ∧ w = w' := by
  have HR : Hid ((Extern.BytealgCompare.compare #[.slice a1 l1 c1, .slice a2 l2 c2]).run Tryz.prog w = .ok (.int .i64 (cmpX xs ys)) w) := by
    show _ = _
    change Sem.run Tryz.prog (do pure (goInt (Extern.BytealgCompare.cmp (← Extern.Bytes.bytesOf (.slice a1 l1 c1)) (← Extern.Bytes.bytesOf (.slice a2 l2 c2))))) w = _
    simp only [Sem.run_bind, run_bytesOf h1, run_bytesOf h2, Sem.run_pure, Result.andThen]
    rw [Lib.cmp_eq]
    show Result.ok (Value.int .i64 (Lib.compareBytes (u8s xs) (u8s ys))) w = _
    rw [cmp_u8 xs ys (bd_mem h1.bd) (bd_mem h2.bd)]
  clear h1 h2
  go_enter Tryz.func199, Tryz.ntmps199
  go_wp2
  rw [run_callFunc_extern Tryz.func216 (by kernel_rfl) (by kernel_rfl) (by kernel_rfl) (e := Extern.BytealgCompare.compare) (by kernel_rfl), HR.out]
  simp only [Result.andThen]
  rw [Oper.upon_value]
  go_wp2
  go_ret
  exact ⟨rfl, rfl⟩
theorem cmpSW (x y : Int) (w : World) : Calls Tryz.prog 201 #[.int .i64 x, .int .i64 y] w fun e w' => e = .returned (.int .i64 (cmpI x y)) ∧ w = w' := by
  have hx : (x != x) = false := by simp
  have hy : (y != y) = false := by simp
  unfold cmpI
  by_cases h1 : x < y
  · rw [if_pos h1]
    go_enter Tryz.func201, Tryz.ntmps201
    go_wp2
    go_ret
    exact ⟨rfl, rfl⟩
  · rw [if_neg h1]
    by_cases h2 : y < x
    · rw [if_pos h2]
      go_enter Tryz.func201, Tryz.ntmps201
      go_wp2
      go_ret
      exact ⟨rfl, rfl⟩
    · rw [if_neg h2]
      go_enter Tryz.func201, Tryz.ntmps201
      go_wp2
      go_ret
      exact ⟨rfl, rfl⟩
theorem cmpUW (x y : Int) (w : World) : Calls Tryz.prog 202 #[.int .u64 x, .int .u64 y] w fun e w' => e = .returned (.int .i64 (cmpI x y)) ∧ w = w' := by
  have hx : (x != x) = false := by simp
  have hy : (y != y) = false := by simp
  unfold cmpI
  by_cases h1 : x < y
  · rw [if_pos h1]
    go_enter Tryz.func202, Tryz.ntmps202
    go_wp2
    go_ret
    exact ⟨rfl, rfl⟩
  · rw [if_neg h1]
    by_cases h2 : y < x
    · rw [if_pos h2]
      go_enter Tryz.func202, Tryz.ntmps202
      go_wp2
      go_ret
      exact ⟨rfl, rfl⟩
    · rw [if_neg h2]
      go_enter Tryz.func202, Tryz.ntmps202
      go_wp2
      go_ret
      exact ⟨rfl, rfl⟩
theorem cell_kept {w w' : World} {b o : Nat} {x : Value} (hb : Below w.heap.size w w') (h : w.cell? ⟨b, o, none⟩ = some x) : w'.cell? ⟨b, o, none⟩ = some x := by
  rw [hb.cell (p := ⟨b, o, none⟩) (World.block_lt_of_cell? _ _ h)]; exact h
theorem vcells {w w2 : World} {x y z : Value} (hb : Below (w.alloc (.cells #[x, y, z] 26)).heap.size (w.alloc (.cells #[x, y, z] 26)) w2) : w2.cell? ⟨w.heap.size, 0, none⟩ = some x ∧ w2.cell? ⟨w.heap.size, 1, none⟩ = some y ∧ w2.cell? ⟨w.heap.size, 2, none⟩ = some z := by
  have hbx : ∀ o, w2.cell? ⟨w.heap.size, o, none⟩ = (w.alloc (.cells #[x, y, z] 26)).cell? ⟨w.heap.size, o, none⟩ := fun o => World.cell?_of_block (hb.block w.heap.size (by simp))
  refine ⟨?_, ?_, ?_⟩
  all_goals (rw [hbx, World.cell?_alloc_at _ _ _ _ rfl]; rfl)
theorem froz {w w2 : World} {x y z : Value} (hb : Below (w.alloc (.cells #[x, y, z] 26)).heap.size (w.alloc (.cells #[x, y, z] 26)) w2) : ∀ o, w2.frozen? ⟨w.heap.size, o, none⟩ = false := fun o => by rw [hb.frozen (p := ⟨w.heap.size, o, none⟩) (by simp), World.frozen?_alloc_at _ _ _ _ rfl]
theorem two_cells {w w2 : World} {x y z x' y' z' : Value} (hb : Below ((w.alloc (.cells #[x, y, z] 26)).alloc (.cells #[x', y', z'] 26)).heap.size ((w.alloc (.cells #[x, y, z] 26)).alloc (.cells #[x', y', z'] 26)) w2) :
    (w2.cell? ⟨w.heap.size, 0, none⟩ = some x ∧ w2.cell? ⟨w.heap.size, 1, none⟩ = some y ∧ w2.cell? ⟨w.heap.size, 2, none⟩ = some z) ∧ (w2.cell? ⟨w.heap.size + 1, 0, none⟩ = some x' ∧ w2.cell? ⟨w.heap.size + 1, 1, none⟩ = some y' ∧ w2.cell? ⟨w.heap.size + 1, 2, none⟩ = some z') ∧ (∀ o, w2.frozen? ⟨w.heap.size, o, none⟩ = false) ∧ (∀ o, w2.frozen? ⟨w.heap.size + 1, o, none⟩ = false) ∧ w.heap.size + 1 < w2.heap.size ∧ Below w.heap.size w w2 := by
  have hs : w.heap.size + 1 < w2.heap.size := by have := hb.size; simp at this; omega
  have h0 : Below (w.alloc (.cells #[x, y, z] 26)).heap.size (w.alloc (.cells #[x, y, z] 26)) w2 := (below_alloc _).trans (hb.mono (by simp))
  have h1 := vcells (w := w.alloc (.cells #[x, y, z] 26)) hb
  have h2 := froz (w := w.alloc (.cells #[x, y, z] 26)) hb
  simp only [World.size_alloc] at h1 h2
  exact ⟨vcells h0, h1, froz h0, h2, hs, below_trans (below_alloc _) h0⟩
theorem below_two {w : World} (o o' : Obj) : Below w.heap.size w ((w.alloc o).alloc o') := below_trans (below_alloc _) (below_alloc _)
def cmpV (k n1 n2 : Int) (xs ys : List Int) : Int := if k = 14 then cmpX xs ys else if kneg k = true then cmpI (sgn n1) (sgn n2) else cmpI n1 n2
def cmpE (k n1 n2 : Int) (xs ys : List Int) (m1 m2 : Nat) : Int × Int := if kkey k = false then (0, 18) else if vfit k n1 xs.length m1 = false ∨ vfit k n2 ys.length m2 = false then (0, 7) else (cmpV k n1 n2 xs ys, 0)
section
variable (k n1 n2 : Int) (a1 a2 p1 p2 : Option Addr) (l1 c1 l2 c2 m1 m2 q1 q2 : Nat) (xs ys : List Int) (w : World)
theorem compareW (h10 : 0 ≤ n1) (h11 : n1 < 18446744073709551616) (h20 : 0 ≤ n2) (h21 : n2 < 18446744073709551616) (hr1 : Reads w a1 l1 c1 xs) (hr2 : Reads w a2 l2 c2 ys) (hm1 : m1 ≤ 9223372036854775807) (hm2 : m2 ≤ 9223372036854775807) :
    Calls Tryz.prog 177 #[.int .i64 k, .agg #[.int .u64 n1, .slice a1 l1 c1, .slice p1 m1 q1], .agg #[.int .u64 n2, .slice a2 l2 c2, .slice p2 m2 q2]] w fun e w' => e = .returned (.tuple #[.int .i64 (cmpE k n1 n2 xs ys m1 m2).1, .int .i64 (cmpE k n1 n2 xs ys m1 m2).2]) ∧ Below w.heap.size w w' := by
  have hl1 := hr1.length
  have hl2 := hr2.length
  have HR1 := hid hr1
  have HR2 := hid hr2
  have HK := hid (fun W => isKeyW k W)
  have HN := hid (fun W => negW k W)
  have H1 := hid (fun W => fitsW k n1 a1 p1 l1 c1 m1 q1 W h10 h11 (by have := hr1.le; have := hr1.max; omega) hm1)
  have H2 := hid (fun W => fitsW k n2 a2 p2 l2 c2 m2 q2 W h20 h21 (by have := hr2.le; have := hr2.max; omega) hm2)
  have HB : Hid (Below w.heap.size w w) := hid (Below.refl _ _)
  clear hr1 hr2
  unfold cmpE
  rw [hl1, hl2]
  clear hl1 hl2
  cases hk : kkey k with
  | false =>
    rw [if_pos rfl]
    rw [hk] at HK
    clear hk
    go_enter Tryz.func177, Tryz.ntmps177
    go_wp2_with (first | (go_at_call 198; refine (HK.out _).mono ?_; rintro e w' ⟨rfl, rfl⟩))
    go_ret2
    exact ⟨rfl, below_two _ _⟩
  | true =>
    rw [hk] at HK
    rw [if_neg (by simp)]
    cases hv1 : vfit k n1 l1 m1 with
    | false =>
      rw [if_pos (.inl rfl)]
      rw [hv1] at H1
      clear hk hv1
      go_enter Tryz.func177, Tryz.ntmps177
      go_wp2_with (first | (go_at_call 198; refine (HK.out _).mono ?_; rintro e w' ⟨rfl, rfl⟩) | (go_at_call 174; refine (H1.out _).mono ?_; rintro e w2 ⟨rfl, hb⟩; obtain ⟨⟨d0, d1, d2⟩, ⟨f0, f1, f2⟩, _, _, _, hbel⟩ := two_cells hb; replace HB := hid hbel; clear hb hbel))
      go_ret2
      exact ⟨rfl, HB.out⟩
    | true =>
      rw [hv1] at H1
      cases hv2 : vfit k n2 l2 m2 with
      | false =>
        rw [if_pos (.inr rfl)]
        rw [hv2] at H2
        clear hk hv1 hv2
        go_enter Tryz.func177, Tryz.ntmps177
        go_wp2_with fail
        refine (HK.out _).mono ?_
        rintro e w' ⟨rfl, rfl⟩
        go_wp2_with fail
        refine (H1.out _).mono ?_
        rintro e w2 ⟨rfl, hb⟩
        obtain ⟨⟨d0, d1, d2⟩, ⟨f0, f1, f2⟩, _, _, _, hbel⟩ := two_cells hb
        replace HB := hid hbel
        clear hb hbel
        go_wp2_with fail
        refine (H2.out _).mono ?_
        rintro e w3 ⟨rfl, hb⟩
        replace d0 := cell_kept hb d0
        replace d1 := cell_kept hb d1
        replace f0 := cell_kept hb f0
        replace f1 := cell_kept hb f1
        replace HB := hid (below_trans HB.out hb)
        clear hb d2 f2
        go_wp2
        go_ret2
        exact ⟨rfl, HB.out⟩
      | true =>
        rw [if_neg (by simp)]
        rw [hv2] at H2
        clear hk hv1 hv2
        unfold cmpV
        by_cases h14 : k = 14
        · subst h14
          rw [if_pos rfl]
          go_enter Tryz.func177, Tryz.ntmps177
          go_wp2_with fail
          refine (HK.out _).mono ?_
          rintro e w' ⟨rfl, rfl⟩
          go_wp2_with fail
          refine (H1.out _).mono ?_
          rintro e w2 ⟨rfl, hb⟩
          obtain ⟨⟨d0, d1, d2⟩, ⟨f0, f1, f2⟩, _, _, _, hbel⟩ := two_cells hb
          replace HB := hid hbel
          clear hb hbel
          go_wp2_with fail
          refine (H2.out _).mono ?_
          rintro e w3 ⟨rfl, hb⟩
          replace d0 := cell_kept hb d0
          replace d1 := cell_kept hb d1
          replace f0 := cell_kept hb f0
          replace f1 := cell_kept hb f1
          replace HB := hid (below_trans HB.out hb)
          clear hb d2 f2
          go_wp2_with (go_at_call 199; refine (bytesCmpW a1 a2 l1 c1 l2 c2 xs ys _ (reads_kept HR1.out HB.out) (reads_kept HR2.out HB.out)).mono ?_; rintro e w' ⟨rfl, rfl⟩)
          go_ret2
          exact ⟨rfl, HB.out⟩
        · rw [if_neg h14]
          have e14 : (k == 14) = false := by simpa using h14
          have hs1 := wrap64_sgn n1 h10 h11
          have hs2 := wrap64_sgn n2 h20 h21
          cases hn : kneg k with
          | true =>
            rw [if_pos rfl]
            rw [hn] at HN
            clear hn h14
            go_enter Tryz.func177, Tryz.ntmps177
            go_wp2_with fail
            refine (HK.out _).mono ?_
            rintro e w' ⟨rfl, rfl⟩
            go_wp2_with fail
            refine (H1.out _).mono ?_
            rintro e w2 ⟨rfl, hb⟩
            obtain ⟨⟨d0, d1, d2⟩, ⟨f0, f1, f2⟩, _, _, _, hbel⟩ := two_cells hb
            replace HB := hid hbel
            clear hb hbel
            go_wp2_with fail
            refine (H2.out _).mono ?_
            rintro e w3 ⟨rfl, hb⟩
            replace d0 := cell_kept hb d0
            replace d1 := cell_kept hb d1
            replace f0 := cell_kept hb f0
            replace f1 := cell_kept hb f1
            replace HB := hid (below_trans HB.out hb)
            clear hb d2 f2
            go_wp2_with (first | (go_at_call 200; refine (HN.out _).mono ?_; rintro e w' ⟨rfl, rfl⟩) | (go_at_call 201; refine (cmpSW _ _ _).mono ?_; rintro e w' ⟨rfl, rfl⟩))
            go_ret2
            exact ⟨rfl, HB.out⟩
          | false =>
            rw [if_neg (by simp)]
            rw [hn] at HN
            clear hn h14
            go_enter Tryz.func177, Tryz.ntmps177
            go_wp2_with fail
            refine (HK.out _).mono ?_
            rintro e w' ⟨rfl, rfl⟩
            go_wp2_with fail
            refine (H1.out _).mono ?_
            rintro e w2 ⟨rfl, hb⟩
            obtain ⟨⟨d0, d1, d2⟩, ⟨f0, f1, f2⟩, _, _, _, hbel⟩ := two_cells hb
            replace HB := hid hbel
            clear hb hbel
            go_wp2_with fail
            refine (H2.out _).mono ?_
            rintro e w3 ⟨rfl, hb⟩
            replace d0 := cell_kept hb d0
            replace d1 := cell_kept hb d1
            replace f0 := cell_kept hb f0
            replace f1 := cell_kept hb f1
            replace HB := hid (below_trans HB.out hb)
            clear hb d2 f2
            go_wp2_with (first | (go_at_call 200; refine (HN.out _).mono ?_; rintro e w' ⟨rfl, rfl⟩) | (go_at_call 202; refine (cmpUW _ _ _).mono ?_; rintro e w' ⟨rfl, rfl⟩))
            go_ret2
            exact ⟨rfl, HB.out⟩
end
set_option maxHeartbeats 1000000
/-- The first key before the second. -/
def keyLt (k : Int) (a b : CV CM) : Bool := decide ((cmpE k a.n b.n a.b b.b a.ms.length b.ms.length).1 < 0)
def keyS (k : Int) (l : List (CV CM)) (j : Nat) : Bool := (List.range' j (l.length - 1 - j)).all fun i => match l[i]?, l[i + 1]? with | some a, some b => keyLt k a b | _, _ => true
def keysB (k : Int) (l : List (CV CM)) : Bool := keyS k l 0
theorem keyS_step (k : Int) (l : List (CV CM)) (j : Nat) (h : j + 1 < l.length) : keyS k l j = (keyLt k l[j] l[j + 1] && keyS k l (j + 1)) := by
  unfold keyS
  rw [show l.length - 1 - j = (l.length - 1 - (j + 1)) + 1 by omega, List.range'_succ, List.all_cons]
  simp [h, show j < l.length by omega]
theorem keyS_end (k : Int) (l : List (CV CM)) (j : Nat) (h : l.length ≤ j + 1) : keyS k l j = true := by
  unfold keyS
  rw [show l.length - 1 - j = 0 by omega]
  rfl
theorem compareM {w : World} {Z : Nat → Prop} {d : Nat} (k : Int) {a b : CV CM} {ba bc ma mc : _} {ba' bc' ma' mc' : _} (h1 : ValE w Z (MsgE w Z d) [.int .u64 a.n, .slice ba a.b.length bc, .slice ma a.ms.length mc] a) (h2 : ValE w Z (MsgE w Z d) [.int .u64 b.n, .slice ba' b.b.length bc', .slice ma' b.ms.length mc'] b) : Calls Tryz.prog 177 #[.int .i64 k, .agg #[.int .u64 a.n, .slice ba a.b.length bc, .slice ma a.ms.length mc], .agg #[.int .u64 b.n, .slice ba' b.b.length bc', .slice ma' b.ms.length mc']] w fun e w' => (∃ r er, e = .returned (.tuple #[.int .i64 r, .int .i64 er]) ∧ Hid (keyLt k a b = decide (r < 0))) ∧ Below w.heap.size w w' := by
  obtain ⟨_, _, _, _, e1, g1, -, l1, l2, u1⟩ := val_open h1
  obtain ⟨_, _, _, _, e2, g2, -, l3, l4, u2⟩ := val_open h2
  simp only [List.cons.injEq, Value.slice.injEq, true_and, and_true] at e1 e2
  obtain ⟨⟨rfl, rfl⟩, rfl, rfl⟩ := e1
  obtain ⟨⟨rfl, rfl⟩, rfl, rfl⟩ := e2
  exact (compareW k a.n b.n _ _ _ _ _ _ _ _ _ _ _ _ a.b b.b w u1.1 u1.2 u2.1 u2.2 g1.reads g2.reads (by omega) (by omega)).mono fun e w' h => ⟨⟨_, _, h.1, hid rfl⟩, h.2⟩
theorem keysRiseM (w : World) (Z : Nat → Prop) (d : Nat) (k : Int) (xs : List (CV CM)) (a : Option Addr) (c : Nat) (h : VlsR w Z d (.slice a xs.length c) xs) : Calls Tryz.prog 147 #[.int .i64 k, .slice a xs.length c] w fun e w' => e = .returned (.bool (keysB k xs)) ∧ Below w.heap.size w w' := by
  obtain ⟨_, _, e1, l1⟩ := RowM.sl h
  clear e1
  have m1 : (xs.length : Int) ≤ 9223372036854775807 := by omega
  have H1 := hid h
  clear h
  go_enter Tryz.func147, Tryz.ntmps147
  go_wp2
  go_loopw [5] (fun s5 wr => ∃ j : Nat, s5 = .int .i64 ((j : Int) + 1) ∧ (j ≤ xs.length) ∧ Hid (keysB k xs = keyS k xs j) ∧ Hid (Below w.heap.size w wr)) (fun s5 wr => xs.length + 1 - numAt wr s5)
  case atStart => exact ⟨0, rfl, by omega, hid rfl, hid (Below.refl _ _)⟩
  case round =>
    obtain ⟨j, rfl, hj, HA, hb⟩ := hrel
    by_cases hlt : j + 1 < xs.length
    · have k2 : (j : Int) + 1 < (xs.length : Int) := by omega
      have k3 : (j : Int) + 1 - 1 = (j : Int) := by omega
      have k4 : (j : Int) < (xs.length : Int) := by omega
      obtain ⟨b1, o1, ba1, bc1, ma1, mc1, rfl, -, hb1, c0, c1, c2, he1⟩ := vls_at (H1.out.kept hb.out) (show j < xs.length by omega)
      obtain ⟨b2, o2, ba2, bc2, ma2, mc2, e2, -, -, d0, d1, d2, he2⟩ := vls_at (H1.out.kept hb.out) hlt
      cases e2
      have HST := hid (keyS_step k xs j hlt)
      have HE1 := hid he1
      have HE2 := hid he2
      clear he1 he2
      have e5 : ((j : Int) + 1).toNat = j + 1 := by omega
      have kw : IntKind.i64.wrap ((j : Int) + 1 - 1) = (j : Int) := by rw [k3, IntKind.wrap_i64]; omega
      have kw2 : IntKind.i64.wrap (j : Int) = (j : Int) := by rw [IntKind.wrap_i64]; omega
      have kw3 : wrap64 (j : Int) = (j : Int) := by unfold wrap64; omega
      have kw4 : wrap64 ((j : Int) + 1 - 1) = (j : Int) := by unfold wrap64; omega
      have kp : (0 : Int) ≤ (j : Int) := by omega
      have kp1 : (0 : Int) ≤ (j : Int) + 1 := by omega
      generalize xs[j] = x at *
      generalize xs[j + 1] = y at *
      have HC := hid fun W (hW : Below wr.heap.size wr W) => compareM k (HE1.out.kept hW) (HE2.out.kept hW)
      clear HE1 HE2
      go_wp2
      go_region_held3 (fun W => W.cell? ⟨b1, o1 + j * 3, none⟩ = some (.int .u64 x.n) ∧ W.cell? ⟨b1, o1 + j * 3 + 1, none⟩ = some (.slice ba1 x.b.length bc1) ∧ W.cell? ⟨b1, o1 + j * 3 + 2, none⟩ = some (.slice ma1 x.ms.length mc1) ∧ W.cell? ⟨b1, o1 + (j + 1) * 3, none⟩ = some (.int .u64 y.n) ∧ W.cell? ⟨b1, o1 + (j + 1) * 3 + 1, none⟩ = some (.slice ba2 y.b.length bc2) ∧ W.cell? ⟨b1, o1 + (j + 1) * 3 + 2, none⟩ = some (.slice ma2 y.ms.length mc2)) (exact ⟨c0, c1, c2, d0, d1, d2⟩) (first | (go_at_call 177; refine (HC.out _ (by exact blBy)).mono ?_; rintro e w1 ⟨⟨r, er, rfl, hkl⟩, hb1⟩; have HB1 : Hid (Below w.heap.size w w1) := hid (bl_then (by have := hb.out; exact blBy) hb1); replace c0 := cell_below c0 (bl_then (by exact blBy) hb1); replace c1 := cell_below c1 (bl_then (by exact blBy) hb1); replace c2 := cell_below c2 (bl_then (by exact blBy) hb1); replace d0 := cell_below d0 (bl_then (by exact blBy) hb1); replace d1 := cell_below d1 (bl_then (by exact blBy) hb1); replace d2 := cell_below d2 (bl_then (by exact blBy) hb1); clear hb1))
      by_cases hq : r < 0
      · have hq2 : ¬ (0 : Int) ≤ r := by omega
        have HQ : Hid (keysB k xs = keyS k xs (j + 1)) := hid (by rw [HA.out, HST.out, hkl.out]; simp [hq])
        go_wp2
        all_goals exact ⟨⟨j + 1, by simp, by omega, HQ, hid (by have := HB1.out; exact blBy)⟩, by simp [numAt]; omega⟩
      · have hq2 : (0 : Int) ≤ r := by omega
        have HQ : Hid (keysB k xs = false) := hid (by rw [HA.out, HST.out, hkl.out]; simp [hq])
        go_wp2
        go_ret
        exact ⟨ret_bool HQ.out.symm, by have := HB1.out; exact blBy⟩
    · have k2 : ¬ (j : Int) + 1 < (xs.length : Int) := by omega
      have HX : Hid (keysB k xs = true) := hid (by rw [HA.out, keyS_end k xs j (by omega)])
      go_wp2
      go_ret
      exact ⟨ret_bool HX.out.symm, hb.out⟩
/-- The cells of a field's type. -/
def cOW (o : FT) : Array Value := #[.string (strOfNums o.name), .int .i64 o.num, .int .i64 o.kind, .int .i64 o.ref, .int .i64 o.lab, .int .i64 o.one, .int .i64 o.key]
theorem valFn (w : World) (l : List TV) (ta : Option Addr) (tc : Nat) (h : TbR w (.slice ta l.length tc) l) (o : FT) (hr : 0 ≤ o.ref ∧ o.ref.toNat < l.length) (Z : Nat → Prop) (d : Nat) (cs : List Value) (v : CV CM) (hv : ValE w Z (MsgE w Z d) cs v) (p q : Nat) (hp : Blk w p 68 #[.slice ta l.length tc]) (hq : Blk w q 77 (cOW o)) : Calls Tryz.prog 141 #[.agg cs.toArray, .pointer (some ⟨p, 0, none⟩), .pointer (some ⟨q, 0, none⟩)] w fun e w' => e = .returned (.bool (valB l o v)) ∧ Below w.heap.size w w' := by
  have HV := hid fun W (hW : Below w.heap.size w W) => valIsTypedM W l ta tc (h.kept hW) o hr Z d cs v (hv.kept hW)
  obtain ⟨ba, bc, ma, mc, rfl, -⟩ := val_open hv
  clear h hr hv
  unfold cOW at hq
  have x1 := hp.cellF
  have z1 := hp.lt
  have x2 := hq.cellF
  have z2 := hq.lt
  go_enter Tryz.func141, Tryz.ntmps141
  go_wp2_with fail
  refine (HV.out _ (by exact blBy)).mono ?_
  rintro e w1 ⟨rfl, hb1⟩
  have hbz : Hid (Below w.heap.size w w1) := hid (bl_then (by exact blBy) hb1)
  clear hb1
  go_wp2
  go_ret
  exact ⟨rfl, hbz.out⟩
theorem keyFn (w : World) (o : FT) (Z : Nat → Prop) (d : Nat) (cs : List Value) (v : CV CM) (hv : ValE w Z (MsgE w Z d) cs v) (q : Nat) (hq : Blk w q 77 (cOW o)) : Calls Tryz.prog 143 #[.agg cs.toArray, .pointer (some ⟨q, 0, none⟩)] w fun e w' => e = .returned (.bool (scalarB o.key v)) ∧ Below w.heap.size w w' := by
  have HV := hid fun W (hW : Below w.heap.size w W) => isScalarM W Z d o.key cs v (hv.kept hW)
  obtain ⟨ba, bc, ma, mc, rfl, -⟩ := val_open hv
  clear hv
  unfold cOW at hq
  have x2 := hq.cellF
  have z2 := hq.lt
  go_enter Tryz.func143, Tryz.ntmps143
  go_wp2_with fail
  refine (HV.out _ (by exact blBy)).mono ?_
  rintro e w1 ⟨rfl, hb1⟩
  have hbz : Hid (Below w.heap.size w w1) := hid (bl_then (by exact blBy) hb1)
  clear hb1
  go_wp2
  go_ret
  exact ⟨rfl, hbz.out⟩
theorem cfVal (args : Array Value) (W : World) : (callFunc 141 args).run Tryz.prog W = .ok (.enter 141 args) W := cf_enter Tryz.func141 (by kernel_rfl) (by kernel_rfl) args W
theorem cfKey (args : Array Value) (W : World) : (callFunc 143 args).run Tryz.prog W = .ok (.enter 143 args) W := cf_enter Tryz.func143 (by kernel_rfl) (by kernel_rfl) args W
end Go.Proofs.YtnfdlnelfnigdaaGreatDoor
