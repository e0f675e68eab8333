/-
  The document's Typed, at every depth.
  The document's Copy: an entry, a message of copied fields.
  The document's Copy of a message, where that of its fields is known.
-/
import Derived.Test.YtnfdlnelfnigdaaGreatDoorCL
import Derived.Test.YtnfdlnelfnigdaaGreatDoorCCJ
import Derived.Test.YtnfdlnelfnigdaaGreatDoorCNG
import Derived.Deep.RegionHeld3
namespace Go.Proofs.YtnfdlnelfnigdaaGreatDoor
open Go.RowKit
set_option maxRecDepth 1000000
set_option linter.unusedVariables false
set_option linter.unusedSimpArgs false
/-- The numbers of a message's values, at its own depth. -/
theorem MsgE.u64 {w : World} {Z : Nat → Prop} {d : Nat} {cs : List Value} {m : CM} (h : MsgE w Z (d + 1) cs m) : ∀ f ∈ m.fs, ∀ v ∈ f.vs, U64 v.n := by
  obtain ⟨fa, fc, ua, uc, rfl, g, -⟩ := msg_open h
  intro f hf v hv
  obtain ⟨i, hi, rfl⟩ := List.mem_iff_getElem.1 hf
  obtain ⟨b, o, ka, kc, va, vc, -, -, -, -, -, -, he⟩ := fls_at g hi
  obtain ⟨_, _, _, _, -, -, q, -⟩ := fld_open he
  obtain ⟨j, hj, rfl⟩ := List.mem_iff_getElem.1 hv
  obtain ⟨_, _, _, _, _, _, -, -, -, -, -, -, hv⟩ := vls_at q hj
  obtain ⟨_, _, _, _, -, -, -, -, -, hu⟩ := val_open hv
  exact hu
theorem typedD (l : List TV) (ta : Option Addr) (tc : Nat) (hg : goodB l = true) (hs : ∀ y ∈ l, ∀ s ∈ y.t.ss, I64 s.num) : ∀ (d : Nat) (w : World) (Z : Nat → Prop) (k : Nat) (hk : k < l.length) (cs : List Value) (m : CM), TbR w (.slice ta l.length tc) l → MsgE w Z d cs m → Calls Tryz.prog 20 #[.agg #[.slice ta l.length tc], .int .i64 (k : Int), .agg cs.toArray] w fun e w' => e = .returned (.bool (keptB l d l[k] m)) ∧ Below w.heap.size w w'
  | 0, w, Z, k, hk, cs, m, h, hm => hm.elim
  | d + 1, w, Z, k, hk, cs, m, h, hm => by
    have h1 := typedStepD w l ta tc h hg k hk (keptK l d) Z d cs m hm (fun W hW k' hk' cs' z hz => by
      have h2 := typedD l ta tc hg hs d W Z k' hk' cs' z (h.kept hW) hz
      have h3 : keptK l d k' z = keptB l d l[k'] z := by unfold keptK; rw [List.getElem?_eq_getElem hk']
      rw [h3]
      exact h2)
    rw [ty_eq l hg hs l[k] (List.getElem_mem hk) d m hm.u64] at h1
    exact h1
set_option maxHeartbeats 2000000
/-- An append whose run is known, as one step of a region that draws its order. -/
theorem step_append_ran {P : Program} {ops : Array Oper} {o : Oper} {a : Act} {w : World} {K : Act → World → Prop} {Q : Exit → Act → World → Prop} {E : Prop}
    (hg : o.guard = none) (s x : Operand) (t ty : TypeId) (hop : o.op = Op.call { callee := Callee.builtin Builtin.append, args := #[s, x], argTypes := #[t, t] }) (hty : o.type = ty)
    (v xv v' : Value) (w' : World) (hs : a.eval s = v) (hx : a.eval x = xv) (hr : (Builtin.append_ #[t, t] ty #[v, xv]).run P w = .ok v' w') (hK : K (a.put o.dst v') w') :
    if Region.wanted o (yielded ops a.tmps) = true then Oper.wp P o a w K Q else E := by
  have hw : Region.wanted o (yielded ops a.tmps) = true := by simp [Region.wanted, hg]
  rw [if_pos hw]
  subst hty
  unfold Oper.wp
  simp [execOp, hop, resolve, invoke, builtin, hs, hx, hr, Result.andThen]
  exact hK
theorem OwnM.keepB {α : Type} {w w' : World} {base : Nat} {t : TypeId} {k : Nat} {E : World → (Nat → Prop) → List Value → α → Prop} (F : Fam k E) {v : Value} {xs : List α} (h : OwnM w base t k E v xs) (g : Keep (base ≤ ·) w w') : OwnM w' base t k E v xs := by
  obtain ⟨ts, h1, h2, h3⟩ := h
  exact ⟨ts, own_keep h1 (fun q hq => (own_type h1 hq).1) g, h2, fun i t x ht hx => F.go (h3 i t x ht hx) g (fun b hz => hz.1) (fun b hz => ⟨hz.1, Nat.lt_of_lt_of_le hz.2.1 g.size, hz.2.2⟩)⟩
theorem copyEntryD (w : World) (Z : Nat → Prop) (cs : List Value) (x : CE) (h : EntE w Z cs x) : Calls Tryz.prog 49 #[.agg cs.toArray] w (NewE FmE w x) := by
  obtain ⟨ba, bc, rfl, g, l1, u⟩ := ent_open h
  have HU := hid u
  obtain ⟨a', c', w', hr, h1, h2⟩ := appendBy (g.kept (show Below w.heap.size w ((w.alloc (.cells #[.int .i64 x.num, .int .i64 x.kind, .int .u64 x.n, .slice ba x.b.length bc] 40)).alloc (.cells #[.int .i64 0, .int .i64 0, .int .u64 0, .slice none 0 0] 40)) from by exact blBy))
  have Bx : Blk ((w.alloc (.cells #[.int .i64 x.num, .int .i64 x.kind, .int .u64 x.n, .slice ba x.b.length bc] 40)).alloc (.cells #[.int .i64 0, .int .i64 0, .int .u64 0, .slice none 0 0] 40)) w.heap.size 40 #[.int .i64 x.num, .int .i64 x.kind, .int .u64 x.n, .slice ba x.b.length bc] := (Blk.new _ _ _).kept (below_alloc _)
  have Br : Blk ((w.alloc (.cells #[.int .i64 x.num, .int .i64 x.kind, .int .u64 x.n, .slice ba x.b.length bc] 40)).alloc (.cells #[.int .i64 0, .int .i64 0, .int .u64 0, .slice none 0 0] 40)) (w.heap.size + 1) 40 #[.int .i64 0, .int .i64 0, .int .u64 0, .slice none 0 0] := Blk.newAt (by simp)
  have HR := hid hr
  have H1 : Hid (ByE w' (w.heap.size + 2 ≤ ·) (.slice a' x.b.length c') x.b) := hid (h1.weak (fun k hk => by simpa using hk))
  have HB : Hid (Below w.heap.size w w') := hid (bl_then (by exact blBy) h2)
  replace Bx := Bx.kept h2
  replace Br := Br.kept h2
  have xx := Bx.cellF
  have yx := Bx.frz
  have zx := Bx.lt
  have xr := Br.cellF
  have yr := Br.frz
  have zr := Br.lt
  clear h hr h1 h2 g u
  go_enter Tryz.func49, Tryz.ntmps49
  go_wp2_with (first | (at_builtin; refine wpList_append_ran rfl _ _ 23 23 rfl rfl _ _ (.slice a' x.b.length c') w' rfl rfl HR.out ?_))
  exact bodyPost_ret (v := .agg #[.int .i64 x.num, .int .i64 x.kind, .int .u64 x.n, .slice a' x.b.length c']) (by simp [results, Tryz.results49, go_sem, xr, zr, yr, xx, yx, zx]) rfl (NewE.mk [.int .i64 x.num, .int .i64 x.kind, .int .u64 x.n, .slice a' x.b.length c'] ⟨_, rfl, (H1.out.keep (f := (w.heap.size + 2 ≤ ·)) (by with_reducible repeat (first | exact Keep.refl _ _ | refine kpS ?_ (by first | (simp; done) | (simp; omega) | omega) | refine kpA ?_ _ | refine kpD ?_ | refine kpN ?_ _)) (fun _ h => h)).weak (fun k hk => by omega), HU.out⟩ (by have := HB.out; exact blBy))
set_option maxHeartbeats 4000000
def CfAt (d : Nat) : Prop := ∀ (w : World) (Z : Nat → Prop) (cs : List Value) (x : CF CM), FldE w Z (MsgE w Z d) cs x → Calls Tryz.prog 47 #[.agg cs.toArray] w (NewE (FmF d) w x)
def CdAt (d : Nat) : Prop := ∀ (w : World) (Z : Nat → Prop) (cs : List Value) (m : CM), MsgE w Z d cs m → Calls Tryz.prog 124 #[.agg cs.toArray] w (NewE (FmM d) w m)
theorem FlsR.old {w : World} {Z : Nat → Prop} {d : Nat} {v : Value} {xs : List (CF CM)} (h : FlsR w Z d v xs) : FlsR w (fun b => Z b ∧ b < w.heap.size) d v xs := RowM.old (by decide) h (fun cs x _ hx => (famF d).old hx)
theorem EnsR.old {w : World} {Z : Nat → Prop} {v : Value} {xs : List CE} (h : EnsR w Z v xs) : EnsR w (fun b => Z b ∧ b < w.heap.size) v xs := RowM.old (by decide) h (fun cs x _ hx => famE.old hx)
theorem copyStepD (d : Nat) (HC : CfAt d) : CdAt (d + 1) := fun w Z cs m h => by
  obtain ⟨ka, kc, va, vc, rfl, g, q, l1, l2⟩ := msg_open (MsgE.old (d + 1) _ _ h)
  have m1 : (m.fs.length : Int) ≤ 9223372036854775807 := by omega
  have m2 : (m.us.length : Int) ≤ 9223372036854775807 := by omega
  have G := hid g
  have Q := hid q
  have HCC := hid HC
  clear h g q HC
  go_enter Tryz.func124, Tryz.ntmps124
  go_wp2
  go_loopw [4] (fun s4 wr => ∃ (j : Nat) (oa : Option Addr) (oc : Nat), s4 = .int .i64 j ∧ j ≤ m.fs.length ∧ Hid (Blk wr (w.heap.size) 35 #[.slice ka m.fs.length kc, .slice va m.us.length vc]) ∧ Hid (Blk wr (w.heap.size + 1) 35 #[.slice none 0 0, .slice none 0 0]) ∧ Hid (Blk wr (w.heap.size + 1 + 1) 35 #[.slice oa j oc, .slice none 0 0]) ∧ Hid (OwnM wr (w.heap.size + 3) 29 3 (FmF d) (.slice oa j oc) (m.fs.take j)) ∧ Hid (Below w.heap.size w wr) ∧ Hid (w.heap.size + 3 ≤ wr.heap.size)) (fun s4 wr => m.fs.length - numAt wr s4)
  case atStart => exact ⟨0, none, 0, rfl, by omega, hid (((Blk.new _ _ _).kept (below_alloc _)).kept (below_alloc _)), hid ((Blk.newAt (by simp)).kept (below_alloc _)), hid (Blk.newAt (by simp)), hid (OwnM.nil _ _ _ _ _), hid (by exact blBy), hid (by simp)⟩
  case round =>
    obtain ⟨j, oa, oc, rfl, hj, BM, BR, BO, HO, hb, HS⟩ := hrel
    have xm := BM.out.cellF
    have zm := BM.out.lt
    have xo := BO.out.cellF
    have yo := BO.out.frz
    have zo := BO.out.lt
    by_cases hlt : j < m.fs.length
    · have k2 : (j : Int) < (m.fs.length : Int) := by omega
      obtain ⟨b1, o1, pa, pc, qa, qc, rfl, hz1, hb1, c0, c1, c2, he⟩ := fls_at (G.out.kept hb.out) hlt
      have HE := hid he
      have HTK : Hid (m.fs.take (j + 1) = m.fs.take j ++ [m.fs[j]]) := hid (List.take_succ_eq_append_getElem hlt)
      have HLN : Hid ((m.fs.take j).length = j) := hid (by simp; omega)
      generalize m.fs[j] = x at *
      have hbl := hz1.2
      have HSK : Hid (∀ W, Keep (fun b => b < w.heap.size + 3 ∧ b ≠ w.heap.size + 1 + 1) wr W → (fun W => (∀ k, W.cell? ⟨w.heap.size, k, none⟩ = #[.slice (some ⟨b1, o1, none⟩) m.fs.length kc, .slice va m.us.length vc][k]?) ∧ W.cell? ⟨b1, o1 + j * 3, none⟩ = some (.int .i64 x.num) ∧ W.cell? ⟨b1, o1 + j * 3 + 1, none⟩ = some (.slice pa x.ks.length pc) ∧ W.cell? ⟨b1, o1 + j * 3 + 2, none⟩ = some (.slice qa x.vs.length qc)) W) := hid fun W hk => ⟨(BM.out.keep hk ⟨by omega, by omega⟩).cellF, cell_kp c0 hk ⟨by omega, by omega⟩, cell_kp c1 hk ⟨by omega, by omega⟩, cell_kp c2 hk ⟨by omega, by omega⟩⟩
      clear he hz1
      go_upto_region 5 with fail
      refine wp_region_held_drew (S := (fun W => (∀ k, W.cell? ⟨w.heap.size, k, none⟩ = #[.slice (some ⟨b1, o1, none⟩) m.fs.length kc, .slice va m.us.length vc][k]?) ∧ W.cell? ⟨b1, o1 + j * 3, none⟩ = some (.int .i64 x.num) ∧ W.cell? ⟨b1, o1 + j * 3 + 1, none⟩ = some (.slice pa x.ks.length pc) ∧ W.cell? ⟨b1, o1 + j * 3 + 2, none⟩ = some (.slice qa x.vs.length qc))) (by kernel_rfl) ?_ (fun hHeld => ?_)
      · exact HSK.out _ (Keep.ofBelow (below_drew1 _))
      refine wpAnyH_take (i := 0) (v := ?_) rfl (by kernel_rfl) (by kernel_rfl) (by kernel_rfl) (fun _ _ _ h => h) (Or.inl ⟨by rfl, ?_⟩) (by assumption) ?_
      rotate_left
      · (intro w hSw; (try dsimp only at hSw); go_simp; (try with_reducible rfl))
      try simp only [Act.put, List.getElem_toArray, List.getElem_cons_succ, List.getElem_cons_zero, List.setIfInBounds_toArray, List.set_cons_zero, List.set_cons_succ]
      refine wpAnyH_take (i := 2) (v := ?_) rfl (by kernel_rfl) (by kernel_rfl) (by kernel_rfl) (fun _ _ _ h => h) (Or.inl ⟨by rfl, ?_⟩) (by assumption) ?_
      rotate_left
      · (intro w hSw; (try dsimp only at hSw); go_simp; (try with_reducible rfl))
      try simp only [Act.put, List.getElem_toArray, List.getElem_cons_succ, List.getElem_cons_zero, List.setIfInBounds_toArray, List.set_cons_zero, List.set_cons_succ]
      refine wpAnyH_take (i := 3) (v := ?_) rfl (by kernel_rfl) (by kernel_rfl) (by kernel_rfl) (fun _ _ _ h => h) (Or.inl ⟨by rfl, ?_⟩) (by assumption) ?_
      rotate_left
      · (intro w hSw; (try dsimp only at hSw); go_simp; (try with_reducible rfl))
      try simp only [Act.put, List.getElem_toArray, List.getElem_cons_succ, List.getElem_cons_zero, List.setIfInBounds_toArray, List.set_cons_zero, List.set_cons_succ]
      refine wpAnyH_take (i := 4) (v := ?_) rfl (by kernel_rfl) (by kernel_rfl) (by kernel_rfl) (fun _ _ _ h => h) (Or.inl ⟨by rfl, ?_⟩) (by assumption) ?_
      rotate_left
      · (intro w hSw; (try dsimp only at hSw); go_simp; (try with_reducible rfl))
      try simp only [Act.put, List.getElem_toArray, List.getElem_cons_succ, List.getElem_cons_zero, List.setIfInBounds_toArray, List.set_cons_zero, List.set_cons_succ]
      refine wpAnyH_take (i := 5) (v := ?_) rfl (by kernel_rfl) (by kernel_rfl) (by kernel_rfl) (fun _ _ _ h => h) (Or.inl ⟨by rfl, ?_⟩) (by assumption) ?_
      rotate_left
      · (intro w hSw; (try dsimp only at hSw); go_simp; (try with_reducible rfl))
      try simp only [Act.put, List.getElem_toArray, List.getElem_cons_succ, List.getElem_cons_zero, List.setIfInBounds_toArray, List.set_cons_zero, List.set_cons_succ]
      refine wpAnyH_take (i := 6) (v := ?_) rfl (by kernel_rfl) (by kernel_rfl) (by kernel_rfl) (fun _ _ _ h => h) (Or.inl ⟨by rfl, ?_⟩) (by assumption) ?_
      rotate_left
      · (intro w hSw; (try dsimp only at hSw); go_simp; (try with_reducible rfl))
      try simp only [Act.put, List.getElem_toArray, List.getElem_cons_succ, List.getElem_cons_zero, List.setIfInBounds_toArray, List.set_cons_zero, List.set_cons_succ]
      refine wpAnyH_ready (rs := [1, 7]) (by kernel_rfl) (by simp) ?_
      refine AllReadyH.cons rfl (fun K hK => ?_) ?_
      · go_simp
        refine hK.out _ _ ?_ (fun hHeld => ?_)
        · first | assumption | exact HSK.out _ (Keep.ofBelow (below_drew1 _))
        clear hK K
        try simp only [Act.put, List.getElem_toArray, List.getElem_cons_succ, List.getElem_cons_zero, List.setIfInBounds_toArray, List.set_cons_zero, List.set_cons_succ]
        refine wpAnyH_ready (rs := [7]) (by kernel_rfl) (by simp) ?_
        refine AllReadyH.cons rfl (fun K hK => ?_) ?_
        · go_simp
          go_wp2_with (go_at_call 47; refine (HCC.out _ (fun b => Z b ∧ b < w.heap.size) _ x (HE.out.kept (below_drew1 _))).mono ?_; rintro e u1 ⟨ds, rfl, hn, hbu⟩; have HX1 : Hid (Below wr.heap.size wr u1) := hid (bl_then (below_drew1 _) hbu); have K1 : Hid (Keep (fun b => b < w.heap.size + 3 ∧ b ≠ w.heap.size + 1 + 1) wr u1) := hid (Keep.ofBelow HX1.out); have HZ := hid (zof_new (famF d) HO.out (by simp) (by have := HS.out; omega) hn); have HO1 := hid (HO.out.kept (famF d) HX1.out); obtain ⟨ka2, kc2, va2, vc2, rfl, -⟩ := fld_open HZ.out; have BO1 := hid (BO.out.kept HX1.out); have xo1 := BO1.out.cellF; have yo1 := BO1.out.frz; have zo1 := BO1.out.lt; have hs1 := HX1.out.size; clear hbu hn)
          refine hK.out _ _ ?_ (fun hHeld => ?_)
          · first | assumption | exact HSK.out _ (K1.out)
          clear hK K
          try simp only [Act.put, List.getElem_toArray, List.getElem_cons_succ, List.getElem_cons_zero, List.setIfInBounds_toArray, List.set_cons_zero, List.set_cons_succ]
          obtain ⟨la, lc, x3, HRUN, HO2, HG⟩ := OwnM.push (famF d) 29 32 56 (.agg #[.int .i64 0, .slice none 0 0, .slice none 0 0]) Tryz.underlying32 Tryz.infoF rfl (by decide) (by decide) HO1.out HZ.out (by have := HS.out; omega) (by rw [HLN.out]; omega)
          rw [HLN.out] at HRUN HO2 HG
          refine wpAnyH_ready (rs := [8]) (by kernel_rfl) (by simp) ?_
          refine AllReadyH.cons rfl (fun K hK => ?_) ?_
          · go_simp
            refine hK.out _ _ ?_ (fun hHeld => ?_)
            · first | assumption | exact HSK.out _ (kpA K1.out _)
            clear hK K
            try simp only [Act.put, List.getElem_toArray, List.getElem_cons_succ, List.getElem_cons_zero, List.setIfInBounds_toArray, List.set_cons_zero, List.set_cons_succ]
            refine wpAnyH_ready (rs := [9]) (by kernel_rfl) (by simp) ?_
            refine AllReadyH.cons rfl (fun K hK => ?_) ?_
            · refine step_append_ran rfl _ _ 32 32 rfl rfl _ _ (.slice la (j + 1) lc) x3 rfl rfl HRUN.out ?_
              have KG : Hid (Keep (· < w.heap.size + 3) u1 x3) := hid (Keep.ofGrow HG.out (fun q (hq : q < w.heap.size + 3) e => by have := (HO1.out.own e).1; omega))
              have K3 : Hid (Keep (fun b => b < w.heap.size + 3 ∧ b ≠ w.heap.size + 1 + 1) wr x3) := hid (K1.out.trans (KG.out.weak (fun q hq => hq.1)))
              have BO3 : Hid (Blk x3 (w.heap.size + 1 + 1) 35 #[.slice oa j oc, .slice none 0 0]) := hid (BO1.out.keep KG.out (by show _ < _; omega))
              have xo3 := BO3.out.cellF
              have yo3 := BO3.out.frz
              have zo3 := BO3.out.lt
              have hs3 := HG.out.size
              refine hK.out _ _ ?_ (fun hHeld => ?_)
              · first | assumption | exact HSK.out _ (K3.out)
              clear hK K
              try simp only [Act.put, List.getElem_toArray, List.getElem_cons_succ, List.getElem_cons_zero, List.setIfInBounds_toArray, List.set_cons_zero, List.set_cons_succ]
              refine wpAnyH_take (i := 10) (v := ?_) rfl (by kernel_rfl) (by kernel_rfl) (by kernel_rfl) (fun _ _ _ h => h) (Or.inl ⟨by rfl, ?_⟩) (by assumption) ?_
              rotate_left
              · (intro w hSw; (try dsimp only at hSw); go_simp; (try with_reducible rfl))
              try simp only [Act.put, List.getElem_toArray, List.getElem_cons_succ, List.getElem_cons_zero, List.setIfInBounds_toArray, List.set_cons_zero, List.set_cons_succ]
              refine wpAnyH_ready (rs := [11]) (by kernel_rfl) (by simp) ?_
              refine AllReadyH.cons rfl (fun K hK => ?_) ?_
              · go_simp
                refine hK.out _ _ ?_ (fun hHeld => ?_)
                · first | assumption | exact HSK.out _ (kpS K3.out (by simp))
                clear hK K
                try simp only [Act.put, List.getElem_toArray, List.getElem_cons_succ, List.getElem_cons_zero, List.setIfInBounds_toArray, List.set_cons_zero, List.set_cons_succ]
                refine wpAnyH_done (by kernel_rfl) ?_ _
                go_wp2
                exact ⟨⟨j + 1, la, lc, by simp, by omega, hid ((BM.out.keep K3.out ⟨by omega, by omega⟩).other (by first | (simp; done) | (simp; omega) | omega) _), hid ((BR.out.keep K3.out ⟨by omega, by omega⟩).other (by first | (simp; done) | (simp; omega) | omega) _), hid ((BO3.out.set 0 _).is (by simp)), hid (by rw [HTK.out]; exact HO2.out.keepB (famF d) (Keep.setCell _ _ _ (by simp))), hid (Below.trans (hb.out) (Below.trans (HX1.out.mono hb.out.size) (by have h3 := KG.out.below (B := w.heap.size) (by have := hb.out.size; omega) (fun k hk => by show k < _; omega); exact h3.setCell (by simp; omega) _))), hid (by have := HS.out; simp; omega)⟩, by simp [numAt]; omega⟩
              exact AllReadyH.nil
            exact AllReadyH.nil
          exact AllReadyH.nil
        exact AllReadyH.nil
      refine AllReadyH.cons rfl (fun K hK => ?_) ?_
      · go_simp
        go_wp2_with (go_at_call 47; refine (HCC.out _ (fun b => Z b ∧ b < w.heap.size) _ x (HE.out.kept (below_drew1 _))).mono ?_; rintro e u1 ⟨ds, rfl, hn, hbu⟩; have HX1 : Hid (Below wr.heap.size wr u1) := hid (bl_then (below_drew1 _) hbu); have K1 : Hid (Keep (fun b => b < w.heap.size + 3 ∧ b ≠ w.heap.size + 1 + 1) wr u1) := hid (Keep.ofBelow HX1.out); have HZ := hid (zof_new (famF d) HO.out (by simp) (by have := HS.out; omega) hn); have HO1 := hid (HO.out.kept (famF d) HX1.out); obtain ⟨ka2, kc2, va2, vc2, rfl, -⟩ := fld_open HZ.out; have BO1 := hid (BO.out.kept HX1.out); have xo1 := BO1.out.cellF; have yo1 := BO1.out.frz; have zo1 := BO1.out.lt; have hs1 := HX1.out.size; clear hbu hn)
        refine hK.out _ _ ?_ (fun hHeld => ?_)
        · first | assumption | exact HSK.out _ (K1.out)
        clear hK K
        try simp only [Act.put, List.getElem_toArray, List.getElem_cons_succ, List.getElem_cons_zero, List.setIfInBounds_toArray, List.set_cons_zero, List.set_cons_succ]
        obtain ⟨la, lc, x3, HRUN, HO2, HG⟩ := OwnM.push (famF d) 29 32 56 (.agg #[.int .i64 0, .slice none 0 0, .slice none 0 0]) Tryz.underlying32 Tryz.infoF rfl (by decide) (by decide) HO1.out HZ.out (by have := HS.out; omega) (by rw [HLN.out]; omega)
        rw [HLN.out] at HRUN HO2 HG
        refine wpAnyH_ready (rs := [1, 8]) (by kernel_rfl) (by simp) ?_
        refine AllReadyH.cons rfl (fun K hK => ?_) ?_
        · go_simp
          refine hK.out _ _ ?_ (fun hHeld => ?_)
          · first | assumption | exact HSK.out _ (K1.out)
          clear hK K
          try simp only [Act.put, List.getElem_toArray, List.getElem_cons_succ, List.getElem_cons_zero, List.setIfInBounds_toArray, List.set_cons_zero, List.set_cons_succ]
          refine wpAnyH_ready (rs := [8]) (by kernel_rfl) (by simp) ?_
          refine AllReadyH.cons rfl (fun K hK => ?_) ?_
          · go_simp
            refine hK.out _ _ ?_ (fun hHeld => ?_)
            · first | assumption | exact HSK.out _ (kpA K1.out _)
            clear hK K
            try simp only [Act.put, List.getElem_toArray, List.getElem_cons_succ, List.getElem_cons_zero, List.setIfInBounds_toArray, List.set_cons_zero, List.set_cons_succ]
            refine wpAnyH_ready (rs := [9]) (by kernel_rfl) (by simp) ?_
            refine AllReadyH.cons rfl (fun K hK => ?_) ?_
            · refine step_append_ran rfl _ _ 32 32 rfl rfl _ _ (.slice la (j + 1) lc) x3 rfl rfl HRUN.out ?_
              have KG : Hid (Keep (· < w.heap.size + 3) u1 x3) := hid (Keep.ofGrow HG.out (fun q (hq : q < w.heap.size + 3) e => by have := (HO1.out.own e).1; omega))
              have K3 : Hid (Keep (fun b => b < w.heap.size + 3 ∧ b ≠ w.heap.size + 1 + 1) wr x3) := hid (K1.out.trans (KG.out.weak (fun q hq => hq.1)))
              have BO3 : Hid (Blk x3 (w.heap.size + 1 + 1) 35 #[.slice oa j oc, .slice none 0 0]) := hid (BO1.out.keep KG.out (by show _ < _; omega))
              have xo3 := BO3.out.cellF
              have yo3 := BO3.out.frz
              have zo3 := BO3.out.lt
              have hs3 := HG.out.size
              refine hK.out _ _ ?_ (fun hHeld => ?_)
              · first | assumption | exact HSK.out _ (K3.out)
              clear hK K
              try simp only [Act.put, List.getElem_toArray, List.getElem_cons_succ, List.getElem_cons_zero, List.setIfInBounds_toArray, List.set_cons_zero, List.set_cons_succ]
              refine wpAnyH_take (i := 10) (v := ?_) rfl (by kernel_rfl) (by kernel_rfl) (by kernel_rfl) (fun _ _ _ h => h) (Or.inl ⟨by rfl, ?_⟩) (by assumption) ?_
              rotate_left
              · (intro w hSw; (try dsimp only at hSw); go_simp; (try with_reducible rfl))
              try simp only [Act.put, List.getElem_toArray, List.getElem_cons_succ, List.getElem_cons_zero, List.setIfInBounds_toArray, List.set_cons_zero, List.set_cons_succ]
              refine wpAnyH_ready (rs := [11]) (by kernel_rfl) (by simp) ?_
              refine AllReadyH.cons rfl (fun K hK => ?_) ?_
              · go_simp
                refine hK.out _ _ ?_ (fun hHeld => ?_)
                · first | assumption | exact HSK.out _ (kpS K3.out (by simp))
                clear hK K
                try simp only [Act.put, List.getElem_toArray, List.getElem_cons_succ, List.getElem_cons_zero, List.setIfInBounds_toArray, List.set_cons_zero, List.set_cons_succ]
                refine wpAnyH_done (by kernel_rfl) ?_ _
                go_wp2
                exact ⟨⟨j + 1, la, lc, by simp, by omega, hid ((BM.out.keep K3.out ⟨by omega, by omega⟩).other (by first | (simp; done) | (simp; omega) | omega) _), hid ((BR.out.keep K3.out ⟨by omega, by omega⟩).other (by first | (simp; done) | (simp; omega) | omega) _), hid ((BO3.out.set 0 _).is (by simp)), hid (by rw [HTK.out]; exact HO2.out.keepB (famF d) (Keep.setCell _ _ _ (by simp))), hid (Below.trans (hb.out) (Below.trans (HX1.out.mono hb.out.size) (by have h3 := KG.out.below (B := w.heap.size) (by have := hb.out.size; omega) (fun k hk => by show k < _; omega); exact h3.setCell (by simp; omega) _))), hid (by have := HS.out; simp; omega)⟩, by simp [numAt]; omega⟩
              exact AllReadyH.nil
            exact AllReadyH.nil
          exact AllReadyH.nil
        refine AllReadyH.cons rfl (fun K hK => ?_) ?_
        · go_simp
          refine hK.out _ _ ?_ (fun hHeld => ?_)
          · first | assumption | exact HSK.out _ (kpA K1.out _)
          clear hK K
          try simp only [Act.put, List.getElem_toArray, List.getElem_cons_succ, List.getElem_cons_zero, List.setIfInBounds_toArray, List.set_cons_zero, List.set_cons_succ]
          refine wpAnyH_ready (rs := [1]) (by kernel_rfl) (by simp) ?_
          refine AllReadyH.cons rfl (fun K hK => ?_) ?_
          · go_simp
            refine hK.out _ _ ?_ (fun hHeld => ?_)
            · first | assumption | exact HSK.out _ (kpA K1.out _)
            clear hK K
            try simp only [Act.put, List.getElem_toArray, List.getElem_cons_succ, List.getElem_cons_zero, List.setIfInBounds_toArray, List.set_cons_zero, List.set_cons_succ]
            refine wpAnyH_ready (rs := [9]) (by kernel_rfl) (by simp) ?_
            refine AllReadyH.cons rfl (fun K hK => ?_) ?_
            · refine step_append_ran rfl _ _ 32 32 rfl rfl _ _ (.slice la (j + 1) lc) x3 rfl rfl HRUN.out ?_
              have KG : Hid (Keep (· < w.heap.size + 3) u1 x3) := hid (Keep.ofGrow HG.out (fun q (hq : q < w.heap.size + 3) e => by have := (HO1.out.own e).1; omega))
              have K3 : Hid (Keep (fun b => b < w.heap.size + 3 ∧ b ≠ w.heap.size + 1 + 1) wr x3) := hid (K1.out.trans (KG.out.weak (fun q hq => hq.1)))
              have BO3 : Hid (Blk x3 (w.heap.size + 1 + 1) 35 #[.slice oa j oc, .slice none 0 0]) := hid (BO1.out.keep KG.out (by show _ < _; omega))
              have xo3 := BO3.out.cellF
              have yo3 := BO3.out.frz
              have zo3 := BO3.out.lt
              have hs3 := HG.out.size
              refine hK.out _ _ ?_ (fun hHeld => ?_)
              · first | assumption | exact HSK.out _ (K3.out)
              clear hK K
              try simp only [Act.put, List.getElem_toArray, List.getElem_cons_succ, List.getElem_cons_zero, List.setIfInBounds_toArray, List.set_cons_zero, List.set_cons_succ]
              refine wpAnyH_take (i := 10) (v := ?_) rfl (by kernel_rfl) (by kernel_rfl) (by kernel_rfl) (fun _ _ _ h => h) (Or.inl ⟨by rfl, ?_⟩) (by assumption) ?_
              rotate_left
              · (intro w hSw; (try dsimp only at hSw); go_simp; (try with_reducible rfl))
              try simp only [Act.put, List.getElem_toArray, List.getElem_cons_succ, List.getElem_cons_zero, List.setIfInBounds_toArray, List.set_cons_zero, List.set_cons_succ]
              refine wpAnyH_ready (rs := [11]) (by kernel_rfl) (by simp) ?_
              refine AllReadyH.cons rfl (fun K hK => ?_) ?_
              · go_simp
                refine hK.out _ _ ?_ (fun hHeld => ?_)
                · first | assumption | exact HSK.out _ (kpS K3.out (by simp))
                clear hK K
                try simp only [Act.put, List.getElem_toArray, List.getElem_cons_succ, List.getElem_cons_zero, List.setIfInBounds_toArray, List.set_cons_zero, List.set_cons_succ]
                refine wpAnyH_done (by kernel_rfl) ?_ _
                go_wp2
                exact ⟨⟨j + 1, la, lc, by simp, by omega, hid ((BM.out.keep K3.out ⟨by omega, by omega⟩).other (by first | (simp; done) | (simp; omega) | omega) _), hid ((BR.out.keep K3.out ⟨by omega, by omega⟩).other (by first | (simp; done) | (simp; omega) | omega) _), hid ((BO3.out.set 0 _).is (by simp)), hid (by rw [HTK.out]; exact HO2.out.keepB (famF d) (Keep.setCell _ _ _ (by simp))), hid (Below.trans (hb.out) (Below.trans (HX1.out.mono hb.out.size) (by have h3 := KG.out.below (B := w.heap.size) (by have := hb.out.size; omega) (fun k hk => by show k < _; omega); exact h3.setCell (by simp; omega) _))), hid (by have := HS.out; simp; omega)⟩, by simp [numAt]; omega⟩
              exact AllReadyH.nil
            exact AllReadyH.nil
          exact AllReadyH.nil
        exact AllReadyH.nil
      exact AllReadyH.nil
    · have k2 : ¬ (j : Int) < (m.fs.length : Int) := by omega
      have ej : j = m.fs.length := by omega
      subst ej
      have e1 : m.fs.take m.fs.length = m.fs := List.take_length
      rw [e1] at HO
      have HFL0 := hid (FlsR.old (HO.out.row (famF d) l1))
      have HSB : Hid (w.heap.size + 3 ≤ wr.heap.size) := HS
      generalize hN0 : wr.heap.size = N0 at *
      have HN0 := hid hN0
      clear e1 k2 HO HS hlt hj
      go_wp2
      go_loopw [5] (fun s5 wr => ∃ (j : Nat) (ua : Option Addr) (uc : Nat), s5 = .int .i64 j ∧ j ≤ m.us.length ∧ Hid (Blk wr (w.heap.size) 35 #[.slice ka m.fs.length kc, .slice va m.us.length vc]) ∧ Hid (Blk wr (w.heap.size + 1) 35 #[.slice none 0 0, .slice none 0 0]) ∧ Hid (Blk wr (w.heap.size + 1 + 1) 35 #[.slice oa m.fs.length oc, .slice ua j uc]) ∧ Hid (FlsR wr (fun b => w.heap.size + 3 ≤ b ∧ b < N0) d (.slice oa m.fs.length oc) m.fs) ∧ Hid (OwnM wr N0 40 4 FmE (.slice ua j uc) (m.us.take j)) ∧ Hid (Below w.heap.size w wr) ∧ Hid (N0 ≤ wr.heap.size)) (fun s5 wr => m.us.length - numAt wr s5)
      case atStart => exact ⟨0, none, 0, rfl, by omega, BM, BR, BO, HFL0, hid (OwnM.nil _ _ _ _ _), hb, hid (by have := HN0.out; omega)⟩
      case round =>
        clear BM BR BO HFL0 hb xm zm xo yo zo HN0 hN0
        rename_i wr0
        obtain ⟨j, ua, uc, rfl, hj, BM, BR, BO, HFL, HO, hb, HS⟩ := hrel
        have xm := BM.out.cellF
        have zm := BM.out.lt
        have xo := BO.out.cellF
        have yo := BO.out.frz
        have zo := BO.out.lt
        by_cases hlt : j < m.us.length
        · have k2 : (j : Int) < (m.us.length : Int) := by omega
          obtain ⟨b1, o1, pa, pc, rfl, hz1, hb1, c0, c1, c2, c3, he⟩ := ens_at (Q.out.kept hb.out) hlt
          have HE := hid he
          have HTK : Hid (m.us.take (j + 1) = m.us.take j ++ [m.us[j]]) := hid (List.take_succ_eq_append_getElem hlt)
          have HLN : Hid ((m.us.take j).length = j) := hid (by simp; omega)
          generalize m.us[j] = x at *
          have hbl := hz1.2
          have HSK : Hid (∀ W, Keep (fun b => b < w.heap.size + 3 ∧ b ≠ w.heap.size + 1 + 1) wr W → (fun W => (∀ k, W.cell? ⟨w.heap.size, k, none⟩ = #[.slice ka m.fs.length kc, .slice (some ⟨b1, o1, none⟩) m.us.length vc][k]?) ∧ W.cell? ⟨b1, o1 + j * 4, none⟩ = some (.int .i64 x.num) ∧ W.cell? ⟨b1, o1 + j * 4 + 1, none⟩ = some (.int .i64 x.kind) ∧ W.cell? ⟨b1, o1 + j * 4 + 2, none⟩ = some (.int .u64 x.n) ∧ W.cell? ⟨b1, o1 + j * 4 + 3, none⟩ = some (.slice pa x.b.length pc)) W) := hid fun W hk => ⟨(BM.out.keep hk ⟨by omega, by omega⟩).cellF, cell_kp c0 hk ⟨by omega, by omega⟩, cell_kp c1 hk ⟨by omega, by omega⟩, cell_kp c2 hk ⟨by omega, by omega⟩, cell_kp c3 hk ⟨by omega, by omega⟩⟩
          clear he hz1
          go_upto_region 9 with fail
          refine wp_region_held_drew (S := (fun W => (∀ k, W.cell? ⟨w.heap.size, k, none⟩ = #[.slice ka m.fs.length kc, .slice (some ⟨b1, o1, none⟩) m.us.length vc][k]?) ∧ W.cell? ⟨b1, o1 + j * 4, none⟩ = some (.int .i64 x.num) ∧ W.cell? ⟨b1, o1 + j * 4 + 1, none⟩ = some (.int .i64 x.kind) ∧ W.cell? ⟨b1, o1 + j * 4 + 2, none⟩ = some (.int .u64 x.n) ∧ W.cell? ⟨b1, o1 + j * 4 + 3, none⟩ = some (.slice pa x.b.length pc))) (by kernel_rfl) ?_ (fun hHeld => ?_)
          · exact HSK.out _ (Keep.ofBelow (below_drew1 _))
          refine wpAnyH_take (i := 0) (v := ?_) rfl (by kernel_rfl) (by kernel_rfl) (by kernel_rfl) (fun _ _ _ h => h) (Or.inl ⟨by rfl, ?_⟩) (by assumption) ?_
          rotate_left
          · (intro w hSw; (try dsimp only at hSw); go_simp; (try with_reducible rfl))
          try simp only [Act.put, List.getElem_toArray, List.getElem_cons_succ, List.getElem_cons_zero, List.setIfInBounds_toArray, List.set_cons_zero, List.set_cons_succ]
          refine wpAnyH_take (i := 2) (v := ?_) rfl (by kernel_rfl) (by kernel_rfl) (by kernel_rfl) (fun _ _ _ h => h) (Or.inl ⟨by rfl, ?_⟩) (by assumption) ?_
          rotate_left
          · (intro w hSw; (try dsimp only at hSw); go_simp; (try with_reducible rfl))
          try simp only [Act.put, List.getElem_toArray, List.getElem_cons_succ, List.getElem_cons_zero, List.setIfInBounds_toArray, List.set_cons_zero, List.set_cons_succ]
          refine wpAnyH_take (i := 3) (v := ?_) rfl (by kernel_rfl) (by kernel_rfl) (by kernel_rfl) (fun _ _ _ h => h) (Or.inl ⟨by rfl, ?_⟩) (by assumption) ?_
          rotate_left
          · (intro w hSw; (try dsimp only at hSw); go_simp; (try with_reducible rfl))
          try simp only [Act.put, List.getElem_toArray, List.getElem_cons_succ, List.getElem_cons_zero, List.setIfInBounds_toArray, List.set_cons_zero, List.set_cons_succ]
          refine wpAnyH_take (i := 4) (v := ?_) rfl (by kernel_rfl) (by kernel_rfl) (by kernel_rfl) (fun _ _ _ h => h) (Or.inl ⟨by rfl, ?_⟩) (by assumption) ?_
          rotate_left
          · (intro w hSw; (try dsimp only at hSw); go_simp; (try with_reducible rfl))
          try simp only [Act.put, List.getElem_toArray, List.getElem_cons_succ, List.getElem_cons_zero, List.setIfInBounds_toArray, List.set_cons_zero, List.set_cons_succ]
          refine wpAnyH_take (i := 5) (v := ?_) rfl (by kernel_rfl) (by kernel_rfl) (by kernel_rfl) (fun _ _ _ h => h) (Or.inl ⟨by rfl, ?_⟩) (by assumption) ?_
          rotate_left
          · (intro w hSw; (try dsimp only at hSw); go_simp; (try with_reducible rfl))
          try simp only [Act.put, List.getElem_toArray, List.getElem_cons_succ, List.getElem_cons_zero, List.setIfInBounds_toArray, List.set_cons_zero, List.set_cons_succ]
          refine wpAnyH_take (i := 6) (v := ?_) rfl (by kernel_rfl) (by kernel_rfl) (by kernel_rfl) (fun _ _ _ h => h) (Or.inl ⟨by rfl, ?_⟩) (by assumption) ?_
          rotate_left
          · (intro w hSw; (try dsimp only at hSw); go_simp; (try with_reducible rfl))
          try simp only [Act.put, List.getElem_toArray, List.getElem_cons_succ, List.getElem_cons_zero, List.setIfInBounds_toArray, List.set_cons_zero, List.set_cons_succ]
          refine wpAnyH_ready (rs := [1, 7]) (by kernel_rfl) (by simp) ?_
          refine AllReadyH.cons rfl (fun K hK => ?_) ?_
          · go_simp
            refine hK.out _ _ ?_ (fun hHeld => ?_)
            · first | assumption | exact HSK.out _ (Keep.ofBelow (below_drew1 _))
            clear hK K
            try simp only [Act.put, List.getElem_toArray, List.getElem_cons_succ, List.getElem_cons_zero, List.setIfInBounds_toArray, List.set_cons_zero, List.set_cons_succ]
            refine wpAnyH_ready (rs := [7]) (by kernel_rfl) (by simp) ?_
            refine AllReadyH.cons rfl (fun K hK => ?_) ?_
            · go_simp
              go_wp2_with (go_at_call 49; refine (copyEntryD _ (fun b => Z b ∧ b < w.heap.size) _ x (HE.out.kept (below_drew1 _))).mono ?_; rintro e u1 ⟨ds, rfl, hn, hbu⟩; have HX1 : Hid (Below wr.heap.size wr u1) := hid (bl_then (below_drew1 _) hbu); have K1 : Hid (Keep (fun b => b < w.heap.size + 3 ∧ b ≠ w.heap.size + 1 + 1) wr u1) := hid (Keep.ofBelow HX1.out); have HZ := hid (zof_new famE HO.out (by simp) HS.out hn); have HO1 := hid (HO.out.kept famE HX1.out); obtain ⟨ka2, kc2, rfl, -⟩ := ent_open HZ.out; have BO1 := hid (BO.out.kept HX1.out); have xo1 := BO1.out.cellF; have yo1 := BO1.out.frz; have zo1 := BO1.out.lt; have hs1 := HX1.out.size; clear hbu hn)
              refine hK.out _ _ ?_ (fun hHeld => ?_)
              · first | assumption | exact HSK.out _ (K1.out)
              clear hK K
              try simp only [Act.put, List.getElem_toArray, List.getElem_cons_succ, List.getElem_cons_zero, List.setIfInBounds_toArray, List.set_cons_zero, List.set_cons_succ]
              obtain ⟨la, lc, x3, HRUN, HO2, HG⟩ := OwnM.push famE 40 33 48 (.agg #[.int .i64 0, .int .i64 0, .int .u64 0, .slice none 0 0]) Tryz.underlying33 Tryz.infoE rfl (by decide) (by decide) HO1.out HZ.out (by have := HS.out; omega) (by rw [HLN.out]; omega)
              rw [HLN.out] at HRUN HO2 HG
              refine wpAnyH_ready (rs := [8]) (by kernel_rfl) (by simp) ?_
              refine AllReadyH.cons rfl (fun K hK => ?_) ?_
              · go_simp
                refine hK.out _ _ ?_ (fun hHeld => ?_)
                · first | assumption | exact HSK.out _ (kpA K1.out _)
                clear hK K
                try simp only [Act.put, List.getElem_toArray, List.getElem_cons_succ, List.getElem_cons_zero, List.setIfInBounds_toArray, List.set_cons_zero, List.set_cons_succ]
                refine wpAnyH_ready (rs := [9]) (by kernel_rfl) (by simp) ?_
                refine AllReadyH.cons rfl (fun K hK => ?_) ?_
                · refine step_append_ran rfl _ _ 33 33 rfl rfl _ _ (.slice la (j + 1) lc) x3 rfl rfl HRUN.out ?_
                  have KG : Hid (Keep (· < N0) u1 x3) := hid (Keep.ofGrow HG.out (fun q (hq : q < N0) e => by have := (HO1.out.own e).1; omega))
                  have K3 : Hid (Keep (fun b => b < w.heap.size + 3 ∧ b ≠ w.heap.size + 1 + 1) wr x3) := hid (K1.out.trans (KG.out.weak (fun q hq => by have := hq.1; have := HSB.out; omega)))
                  have BO3 : Hid (Blk x3 (w.heap.size + 1 + 1) 35 #[.slice oa m.fs.length oc, .slice ua j uc]) := hid (BO1.out.keep KG.out (by show _ < _; have := HSB.out; omega))
                  have xo3 := BO3.out.cellF
                  have yo3 := BO3.out.frz
                  have zo3 := BO3.out.lt
                  have hs3 := HG.out.size
                  refine hK.out _ _ ?_ (fun hHeld => ?_)
                  · first | assumption | exact HSK.out _ (K3.out)
                  clear hK K
                  try simp only [Act.put, List.getElem_toArray, List.getElem_cons_succ, List.getElem_cons_zero, List.setIfInBounds_toArray, List.set_cons_zero, List.set_cons_succ]
                  refine wpAnyH_take (i := 10) (v := ?_) rfl (by kernel_rfl) (by kernel_rfl) (by kernel_rfl) (fun _ _ _ h => h) (Or.inl ⟨by rfl, ?_⟩) (by assumption) ?_
                  rotate_left
                  · (intro w hSw; (try dsimp only at hSw); go_simp; (try with_reducible rfl))
                  try simp only [Act.put, List.getElem_toArray, List.getElem_cons_succ, List.getElem_cons_zero, List.setIfInBounds_toArray, List.set_cons_zero, List.set_cons_succ]
                  refine wpAnyH_ready (rs := [11]) (by kernel_rfl) (by simp) ?_
                  refine AllReadyH.cons rfl (fun K hK => ?_) ?_
                  · go_simp
                    refine hK.out _ _ ?_ (fun hHeld => ?_)
                    · first | assumption | exact HSK.out _ (kpS K3.out (by simp))
                    clear hK K
                    try simp only [Act.put, List.getElem_toArray, List.getElem_cons_succ, List.getElem_cons_zero, List.setIfInBounds_toArray, List.set_cons_zero, List.set_cons_succ]
                    refine wpAnyH_done (by kernel_rfl) ?_ _
                    go_wp2
                    exact ⟨⟨j + 1, la, lc, by simp, by omega, hid ((BM.out.keep K3.out ⟨by omega, by omega⟩).other (by first | (simp; done) | (simp; omega) | omega) _), hid ((BR.out.keep K3.out ⟨by omega, by omega⟩).other (by first | (simp; done) | (simp; omega) | omega) _), hid ((BO3.out.set 1 _).is (by simp)), hid (FlsR.go HFL.out (f := fun b => w.heap.size + 3 ≤ b ∧ b < N0) ((Keep.ofBelow HX1.out).trans ((KG.out.weak (fun q hq => hq.2)).trans (Keep.setCell _ _ _ (by first | (simp; done) | (simp; omega) | omega)))) (fun _ h => h) (fun _ h => h)), hid (by rw [HTK.out]; exact HO2.out.keepB famE (Keep.setCell _ _ _ (by have := HSB.out; simp; omega))), hid (Below.trans (hb.out) (Below.trans (HX1.out.mono hb.out.size) (by have h3 := KG.out.below (B := w.heap.size) (by have := hb.out.size; omega) (fun k hk => by show k < _; have := HSB.out; omega); exact h3.setCell (by simp; omega) _))), hid (by have := HS.out; simp; omega)⟩, by simp [numAt]; omega⟩
                  exact AllReadyH.nil
                exact AllReadyH.nil
              exact AllReadyH.nil
            exact AllReadyH.nil
          refine AllReadyH.cons rfl (fun K hK => ?_) ?_
          · go_simp
            go_wp2_with (go_at_call 49; refine (copyEntryD _ (fun b => Z b ∧ b < w.heap.size) _ x (HE.out.kept (below_drew1 _))).mono ?_; rintro e u1 ⟨ds, rfl, hn, hbu⟩; have HX1 : Hid (Below wr.heap.size wr u1) := hid (bl_then (below_drew1 _) hbu); have K1 : Hid (Keep (fun b => b < w.heap.size + 3 ∧ b ≠ w.heap.size + 1 + 1) wr u1) := hid (Keep.ofBelow HX1.out); have HZ := hid (zof_new famE HO.out (by simp) HS.out hn); have HO1 := hid (HO.out.kept famE HX1.out); obtain ⟨ka2, kc2, rfl, -⟩ := ent_open HZ.out; have BO1 := hid (BO.out.kept HX1.out); have xo1 := BO1.out.cellF; have yo1 := BO1.out.frz; have zo1 := BO1.out.lt; have hs1 := HX1.out.size; clear hbu hn)
            refine hK.out _ _ ?_ (fun hHeld => ?_)
            · first | assumption | exact HSK.out _ (K1.out)
            clear hK K
            try simp only [Act.put, List.getElem_toArray, List.getElem_cons_succ, List.getElem_cons_zero, List.setIfInBounds_toArray, List.set_cons_zero, List.set_cons_succ]
            obtain ⟨la, lc, x3, HRUN, HO2, HG⟩ := OwnM.push famE 40 33 48 (.agg #[.int .i64 0, .int .i64 0, .int .u64 0, .slice none 0 0]) Tryz.underlying33 Tryz.infoE rfl (by decide) (by decide) HO1.out HZ.out (by have := HS.out; omega) (by rw [HLN.out]; omega)
            rw [HLN.out] at HRUN HO2 HG
            refine wpAnyH_ready (rs := [1, 8]) (by kernel_rfl) (by simp) ?_
            refine AllReadyH.cons rfl (fun K hK => ?_) ?_
            · go_simp
              refine hK.out _ _ ?_ (fun hHeld => ?_)
              · first | assumption | exact HSK.out _ (K1.out)
              clear hK K
              try simp only [Act.put, List.getElem_toArray, List.getElem_cons_succ, List.getElem_cons_zero, List.setIfInBounds_toArray, List.set_cons_zero, List.set_cons_succ]
              refine wpAnyH_ready (rs := [8]) (by kernel_rfl) (by simp) ?_
              refine AllReadyH.cons rfl (fun K hK => ?_) ?_
              · go_simp
                refine hK.out _ _ ?_ (fun hHeld => ?_)
                · first | assumption | exact HSK.out _ (kpA K1.out _)
                clear hK K
                try simp only [Act.put, List.getElem_toArray, List.getElem_cons_succ, List.getElem_cons_zero, List.setIfInBounds_toArray, List.set_cons_zero, List.set_cons_succ]
                refine wpAnyH_ready (rs := [9]) (by kernel_rfl) (by simp) ?_
                refine AllReadyH.cons rfl (fun K hK => ?_) ?_
                · refine step_append_ran rfl _ _ 33 33 rfl rfl _ _ (.slice la (j + 1) lc) x3 rfl rfl HRUN.out ?_
                  have KG : Hid (Keep (· < N0) u1 x3) := hid (Keep.ofGrow HG.out (fun q (hq : q < N0) e => by have := (HO1.out.own e).1; omega))
                  have K3 : Hid (Keep (fun b => b < w.heap.size + 3 ∧ b ≠ w.heap.size + 1 + 1) wr x3) := hid (K1.out.trans (KG.out.weak (fun q hq => by have := hq.1; have := HSB.out; omega)))
                  have BO3 : Hid (Blk x3 (w.heap.size + 1 + 1) 35 #[.slice oa m.fs.length oc, .slice ua j uc]) := hid (BO1.out.keep KG.out (by show _ < _; have := HSB.out; omega))
                  have xo3 := BO3.out.cellF
                  have yo3 := BO3.out.frz
                  have zo3 := BO3.out.lt
                  have hs3 := HG.out.size
                  refine hK.out _ _ ?_ (fun hHeld => ?_)
                  · first | assumption | exact HSK.out _ (K3.out)
                  clear hK K
                  try simp only [Act.put, List.getElem_toArray, List.getElem_cons_succ, List.getElem_cons_zero, List.setIfInBounds_toArray, List.set_cons_zero, List.set_cons_succ]
                  refine wpAnyH_take (i := 10) (v := ?_) rfl (by kernel_rfl) (by kernel_rfl) (by kernel_rfl) (fun _ _ _ h => h) (Or.inl ⟨by rfl, ?_⟩) (by assumption) ?_
                  rotate_left
                  · (intro w hSw; (try dsimp only at hSw); go_simp; (try with_reducible rfl))
                  try simp only [Act.put, List.getElem_toArray, List.getElem_cons_succ, List.getElem_cons_zero, List.setIfInBounds_toArray, List.set_cons_zero, List.set_cons_succ]
                  refine wpAnyH_ready (rs := [11]) (by kernel_rfl) (by simp) ?_
                  refine AllReadyH.cons rfl (fun K hK => ?_) ?_
                  · go_simp
                    refine hK.out _ _ ?_ (fun hHeld => ?_)
                    · first | assumption | exact HSK.out _ (kpS K3.out (by simp))
                    clear hK K
                    try simp only [Act.put, List.getElem_toArray, List.getElem_cons_succ, List.getElem_cons_zero, List.setIfInBounds_toArray, List.set_cons_zero, List.set_cons_succ]
                    refine wpAnyH_done (by kernel_rfl) ?_ _
                    go_wp2
                    exact ⟨⟨j + 1, la, lc, by simp, by omega, hid ((BM.out.keep K3.out ⟨by omega, by omega⟩).other (by first | (simp; done) | (simp; omega) | omega) _), hid ((BR.out.keep K3.out ⟨by omega, by omega⟩).other (by first | (simp; done) | (simp; omega) | omega) _), hid ((BO3.out.set 1 _).is (by simp)), hid (FlsR.go HFL.out (f := fun b => w.heap.size + 3 ≤ b ∧ b < N0) ((Keep.ofBelow HX1.out).trans ((KG.out.weak (fun q hq => hq.2)).trans (Keep.setCell _ _ _ (by first | (simp; done) | (simp; omega) | omega)))) (fun _ h => h) (fun _ h => h)), hid (by rw [HTK.out]; exact HO2.out.keepB famE (Keep.setCell _ _ _ (by have := HSB.out; simp; omega))), hid (Below.trans (hb.out) (Below.trans (HX1.out.mono hb.out.size) (by have h3 := KG.out.below (B := w.heap.size) (by have := hb.out.size; omega) (fun k hk => by show k < _; have := HSB.out; omega); exact h3.setCell (by simp; omega) _))), hid (by have := HS.out; simp; omega)⟩, by simp [numAt]; omega⟩
                  exact AllReadyH.nil
                exact AllReadyH.nil
              exact AllReadyH.nil
            refine AllReadyH.cons rfl (fun K hK => ?_) ?_
            · go_simp
              refine hK.out _ _ ?_ (fun hHeld => ?_)
              · first | assumption | exact HSK.out _ (kpA K1.out _)
              clear hK K
              try simp only [Act.put, List.getElem_toArray, List.getElem_cons_succ, List.getElem_cons_zero, List.setIfInBounds_toArray, List.set_cons_zero, List.set_cons_succ]
              refine wpAnyH_ready (rs := [1]) (by kernel_rfl) (by simp) ?_
              refine AllReadyH.cons rfl (fun K hK => ?_) ?_
              · go_simp
                refine hK.out _ _ ?_ (fun hHeld => ?_)
                · first | assumption | exact HSK.out _ (kpA K1.out _)
                clear hK K
                try simp only [Act.put, List.getElem_toArray, List.getElem_cons_succ, List.getElem_cons_zero, List.setIfInBounds_toArray, List.set_cons_zero, List.set_cons_succ]
                refine wpAnyH_ready (rs := [9]) (by kernel_rfl) (by simp) ?_
                refine AllReadyH.cons rfl (fun K hK => ?_) ?_
                · refine step_append_ran rfl _ _ 33 33 rfl rfl _ _ (.slice la (j + 1) lc) x3 rfl rfl HRUN.out ?_
                  have KG : Hid (Keep (· < N0) u1 x3) := hid (Keep.ofGrow HG.out (fun q (hq : q < N0) e => by have := (HO1.out.own e).1; omega))
                  have K3 : Hid (Keep (fun b => b < w.heap.size + 3 ∧ b ≠ w.heap.size + 1 + 1) wr x3) := hid (K1.out.trans (KG.out.weak (fun q hq => by have := hq.1; have := HSB.out; omega)))
                  have BO3 : Hid (Blk x3 (w.heap.size + 1 + 1) 35 #[.slice oa m.fs.length oc, .slice ua j uc]) := hid (BO1.out.keep KG.out (by show _ < _; have := HSB.out; omega))
                  have xo3 := BO3.out.cellF
                  have yo3 := BO3.out.frz
                  have zo3 := BO3.out.lt
                  have hs3 := HG.out.size
                  refine hK.out _ _ ?_ (fun hHeld => ?_)
                  · first | assumption | exact HSK.out _ (K3.out)
                  clear hK K
                  try simp only [Act.put, List.getElem_toArray, List.getElem_cons_succ, List.getElem_cons_zero, List.setIfInBounds_toArray, List.set_cons_zero, List.set_cons_succ]
                  refine wpAnyH_take (i := 10) (v := ?_) rfl (by kernel_rfl) (by kernel_rfl) (by kernel_rfl) (fun _ _ _ h => h) (Or.inl ⟨by rfl, ?_⟩) (by assumption) ?_
                  rotate_left
                  · (intro w hSw; (try dsimp only at hSw); go_simp; (try with_reducible rfl))
                  try simp only [Act.put, List.getElem_toArray, List.getElem_cons_succ, List.getElem_cons_zero, List.setIfInBounds_toArray, List.set_cons_zero, List.set_cons_succ]
                  refine wpAnyH_ready (rs := [11]) (by kernel_rfl) (by simp) ?_
                  refine AllReadyH.cons rfl (fun K hK => ?_) ?_
                  · go_simp
                    refine hK.out _ _ ?_ (fun hHeld => ?_)
                    · first | assumption | exact HSK.out _ (kpS K3.out (by simp))
                    clear hK K
                    try simp only [Act.put, List.getElem_toArray, List.getElem_cons_succ, List.getElem_cons_zero, List.setIfInBounds_toArray, List.set_cons_zero, List.set_cons_succ]
                    refine wpAnyH_done (by kernel_rfl) ?_ _
                    go_wp2
                    exact ⟨⟨j + 1, la, lc, by simp, by omega, hid ((BM.out.keep K3.out ⟨by omega, by omega⟩).other (by first | (simp; done) | (simp; omega) | omega) _), hid ((BR.out.keep K3.out ⟨by omega, by omega⟩).other (by first | (simp; done) | (simp; omega) | omega) _), hid ((BO3.out.set 1 _).is (by simp)), hid (FlsR.go HFL.out (f := fun b => w.heap.size + 3 ≤ b ∧ b < N0) ((Keep.ofBelow HX1.out).trans ((KG.out.weak (fun q hq => hq.2)).trans (Keep.setCell _ _ _ (by first | (simp; done) | (simp; omega) | omega)))) (fun _ h => h) (fun _ h => h)), hid (by rw [HTK.out]; exact HO2.out.keepB famE (Keep.setCell _ _ _ (by have := HSB.out; simp; omega))), hid (Below.trans (hb.out) (Below.trans (HX1.out.mono hb.out.size) (by have h3 := KG.out.below (B := w.heap.size) (by have := hb.out.size; omega) (fun k hk => by show k < _; have := HSB.out; omega); exact h3.setCell (by simp; omega) _))), hid (by have := HS.out; simp; omega)⟩, by simp [numAt]; omega⟩
                  exact AllReadyH.nil
                exact AllReadyH.nil
              exact AllReadyH.nil
            exact AllReadyH.nil
          exact AllReadyH.nil
        · have k2 : ¬ (j : Int) < (m.us.length : Int) := by omega
          have ej : j = m.us.length := by omega
          subst ej
          have e1 : m.us.take m.us.length = m.us := List.take_length
          rw [e1] at HO
          have HEN := hid (HO.out.row famE l2)
          have xr := BR.out.cellF
          have yr := BR.out.frz
          have zr := BR.out.lt
          have hb9 := hb.out
          clear e1 k2 HO hlt hj
          go_wp2
          exact bodyPost_ret (v := .agg #[.slice oa m.fs.length oc, .slice ua m.us.length uc]) (by simp [results, Tryz.results124, go_sem, xr, yr, zr]) rfl (NewE.mk [.slice oa m.fs.length oc, .slice ua m.us.length uc] ⟨_, _, rfl, FlsR.go HFL.out (f := (w.heap.size + 3 ≤ ·)) (by with_reducible repeat (first | exact Keep.refl _ _ | refine kpS ?_ (by first | (simp; done) | (simp; omega) | omega) | refine kpA ?_ _ | refine kpD ?_ | refine kpN ?_ _)) (fun _ h => h.1) (fun k hk => by have := hk.1; omega), EnsR.go HEN.out (f := (w.heap.size + 3 ≤ ·)) (by with_reducible repeat (first | exact Keep.refl _ _ | refine kpS ?_ (by first | (simp; done) | (simp; omega) | omega) | refine kpA ?_ _ | refine kpD ?_ | refine kpN ?_ _)) (fun b hb => by have := HSB.out; omega) (fun k hk => by have := HSB.out; omega)⟩ (by have := hb.out; exact blBy))
end Go.Proofs.YtnfdlnelfnigdaaGreatDoor
