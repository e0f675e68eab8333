/-
  The document's Typed, at every depth.
  The document's Set.
  Set: what the program answers.
  How deep a message is, as the walk reckons it.
  How deep a message is: the program's walk.
  The messages of the examples, laid.
  Equal: what the program answers, at every depth.
-/
import Derived.Test.YtgephggcgopfgaaGreatDoorCL
import Derived.Test.YtgephggcgopfgaaGreatDoorEA
import Derived.Test.YtgephggcgopfgaaGreatDoorCEB
import Derived.Test.YtgephggcgopfgaaGreatDoorDM
import Derived.Test.YtgephggcgopfgaaGreatDoorCNG
import Derived.Test.YtgephggcgopfgaaGreatDoorCCJ
import Derived.Test.YtgephggcgopfgaaGreatDoorCAP
import Derived.Test.YtgephggcgopfgaaGreatDoorCTY
import Derived.Deep.RegionHeld3
import Derived.Test.YtgephggcgopfgaaGreatDoorCAA
namespace Go.Proofs.YtgephggcgopfgaaGreatDoor
open Go.RowKit
set_option maxRecDepth 1000000
set_option linter.unusedVariables false
set_option linter.unusedSimpArgs false
theorem MsgE.u64 {w : World} {Z : Nat → Prop} {d : Nat} {cs : List Value} {m : CM} (h : MsgE w Z (d + 1) cs m) : ∀ f ∈ m.fs, ∀ v ∈ f.vs, U64 v.n := by
  obtain ⟨fa, fc, ua, uc, rfl, g, -⟩ := msg_open h
  intro f hf v hv
  obtain ⟨i, hi, rfl⟩ := List.mem_iff_getElem.1 hf
  obtain ⟨b, o, ka, kc, va, vc, -, -, -, -, -, -, he⟩ := fls_at g hi
  obtain ⟨_, _, _, _, -, -, q, -⟩ := fld_open he
  obtain ⟨j, hj, rfl⟩ := List.mem_iff_getElem.1 hv
  obtain ⟨_, _, _, _, _, _, -, -, -, -, -, -, hv⟩ := vls_at q hj
  obtain ⟨_, _, _, _, -, -, -, -, -, hu⟩ := val_open hv
  exact hu
theorem typedD (l : List TV) (ta : Option Addr) (tc : Nat) (hg : goodB l = true) (hs : ∀ y ∈ l, ∀ s ∈ y.t.ss, I64 s.num) : ∀ (d : Nat) (w : World) (Z : Nat → Prop) (k : Nat) (hk : k < l.length) (cs : List Value) (m : CM), TbR w (.slice ta l.length tc) l → MsgE w Z d cs m → Calls Tryz.prog 22 #[.agg #[.slice ta l.length tc], .int .i64 (k : Int), .agg cs.toArray] w fun e w' => e = .returned (.bool (keptB l d l[k] m)) ∧ Below w.heap.size w w'
  | 0, w, Z, k, hk, cs, m, h, hm => hm.elim
  | d + 1, w, Z, k, hk, cs, m, h, hm => by
    have h1 := typedStepD w l ta tc h hg k hk (keptK l d) Z d cs m hm (fun W hW k' hk' cs' z hz => by
      have h2 := typedD l ta tc hg hs d W Z k' hk' cs' z (h.kept hW) hz
      have h3 : keptK l d k' z = keptB l d l[k'] z := by unfold keptK; rw [List.getElem?_eq_getElem hk']
      rw [h3]
      exact h2)
    rw [ty_eq l hg hs l[k] (List.getElem_mem hk) d m hm.u64] at h1
    exact h1
end Go.Proofs.YtgephggcgopfgaaGreatDoor
namespace Go.Proofs.YtgephggcgopfgaaGreatDoor
open Go.RowKit
set_option maxRecDepth 1000000
set_option linter.unusedVariables false
set_option linter.unusedSimpArgs false
set_option maxHeartbeats 2000000
theorem oth_len {fs : List FT} {a : FT} {m : CM} : (fs.foldl (othS a) m).fs.length ≤ m.fs.length := by
  rw [othS_fs]
  exact List.length_filter_le _ _
theorem put_with {l : List TV} {d : Nat} {x : TV} {m : CM} {f : CF CM} (hr : Rise x.t.fs) (h : keptB l (d + 1) x m = true) : CM.mk (putE f ((x.t.fs.foldl (othS (ownF x.t.fs f.num)) m).fs.foldl (putS f) ([], false))) (x.t.fs.foldl (othS (ownF x.t.fs f.num)) m).us = withM x.t.fs m f := by
  have hh : ∀ o ∈ m.fs, hasF x.t.fs o.num = true := fun o ho => by
    have h1 := (kept_all h).1
    unfold holdB at h1
    simp only [Bool.and_eq_true, List.all_eq_true] at h1
    have h2 := h1.2.1 o ho
    unfold typB8 at h2
    rw [Bool.and_eq_true] at h2
    exact h2.1
  rw [oth_with hr hh, othS_us]
  rfl
def SetDR (d : Nat) (w : World) (b : Bool) (m : CM) (e : Ending) (w' : World) : Prop := (b = true → ∃ ds : List Value, e = .returned (.tuple #[.agg ds.toArray, .bool true]) ∧ MsgE w' AnyZ d ds m) ∧ (b = false → e = .returned (.tuple #[.agg #[.slice none 0 0, .slice none 0 0], .bool false])) ∧ Below w.heap.size w w'
theorem setDok (w : World) (l : List TV) (ta : Option Addr) (tc : Nat) (h : TbR w (.slice ta l.length tc) l) (hg : goodB l = true) (hs : ∀ y ∈ l, ∀ s ∈ y.t.ss, I64 s.num) (k : Nat) (hkl : k < l.length) (Z : Nat → Prop) (d : Nat) (cs cf : List Value) (m : CM) (f : CF CM) (hm : MsgE w Z (d + 1) cs m) (hf : FldE w Z (MsgE w Z d) cf f) (hq : keptB l (d + 1) l[k] m = true) : Calls Tryz.prog 34 #[.agg #[.slice ta l.length tc], .int .i64 (k : Int), .agg cs.toArray, .agg cf.toArray] w (SetDR (d + 1) w (keptB l (d + 1) l[k] (withM l[k].t.fs m f)) (withM l[k].t.fs m f)) := by
  have hr := good_rise hg (List.getElem_mem hkl)
  have HPW := hid (put_with (f := f) hr.1 hq)
  have HOL : Hid ((l[k].t.fs.foldl (othS (ownF l[k].t.fs f.num)) m).fs.length < 4000000) := hid (by have := kept_len hq; have := hr.2; have := oth_len (fs := l[k].t.fs) (a := ownF l[k].t.fs f.num) (m := m); omega)
  have H1 := hid fun W (hW : Below w.heap.size w W) => typedD l ta tc hg hs (d + 1) W Z k hkl cs m (h.kept hW) (hm.kept hW)
  rw [hq] at H1
  have H2 : Hid (∀ (W : World), Below w.heap.size w W → Calls Tryz.prog 48 #[.agg #[.slice ta l.length tc], .int .i64 (k : Int), .int .i64 f.num] W fun e w' => e = .returned (.tuple #[.agg #[.string (strOfNums (ownF l[k].t.fs f.num).name), .int .i64 (ownF l[k].t.fs f.num).num, .int .i64 (ownF l[k].t.fs f.num).kind, .int .i64 (ownF l[k].t.fs f.num).ref, .int .i64 (ownF l[k].t.fs f.num).lab, .int .i64 (ownF l[k].t.fs f.num).one, .int .i64 (ownF l[k].t.fs f.num).key], .bool (hasF l[k].t.fs f.num)]) ∧ Below W.heap.size W w') := hid fun W hW => by
    have := fieldDR W l ta tc (h.kept hW) k hkl f.num
    rw [find_own, find_has] at this
    exact this
  have H3 := hid fun W (hW : Below w.heap.size w W) => othersD d W l ta tc (h.kept hW) k hkl Z cs m (hm.kept hW) (ownF l[k].t.fs f.num)
  have H5 := hid fun W (hW : Below w.heap.size w W) (Z' : Nat → Prop) (ds : List Value) (hd : MsgE W Z' (d + 1) ds (withM l[k].t.fs m f)) => typedD l ta tc hg hs (d + 1) W Z' k hkl ds _ (h.kept hW) hd
  have HFF := hid hf
  obtain ⟨a1, c1, a2, c2, rfl, -⟩ := msg_openD hm
  obtain ⟨ka, kc, va, vc, rfl, -⟩ := fld_open hf
  clear h hg hs hm hf hq hr
  generalize keptB l (d + 1) l[k] (withM l[k].t.fs m f) = kb at *
  generalize withM l[k].t.fs m f = wm at *
  generalize l[k].t.fs.foldl (othS (ownF l[k].t.fs f.num)) m = om at *
  generalize ownF l[k].t.fs f.num = a at *
  generalize hasF l[k].t.fs f.num = ok at *
  go_enter Tryz.func34, Tryz.ntmps34
  go_wp2_with fail
  refine (H1.out _ (by exact blBy)).mono ?_
  rintro e w1 ⟨rfl, hb⟩
  have hz : Below w.heap.size w w1 := bl_then (by exact blBy) hb
  have Bt : Hid (Blk w1 (w.heap.size) 46 #[.slice ta l.length tc]) := hid (((((Blk.new _ _ _).kept (below_alloc _)).kept (below_alloc _)).kept (below_alloc _)).kept hb)
  have Bm : Hid (Blk w1 (w.heap.size + 1) 35 #[.slice a1 m.fs.length c1, .slice a2 m.us.length c2]) := hid ((((Blk.newAt (by simp)).kept (below_alloc _)).kept (below_alloc _)).kept hb)
  have Bf : Hid (Blk w1 (w.heap.size + 1 + 1) 29 #[.int .i64 f.num, .slice ka f.ks.length kc, .slice va f.vs.length vc]) := hid (((Blk.newAt (by simp)).kept (below_alloc _)).kept hb)
  have Br : Hid (Blk w1 (w.heap.size + 1 + 1 + 1) 35 #[.slice none 0 0, .slice none 0 0]) := hid ((Blk.newAt (by simp)).kept hb)
  have HB : Hid (Below w.heap.size w w1) := hid hz
  have xBt := Bt.out.cellF
  have zBt := Bt.out.lt
  have xBm := Bm.out.cellF
  have zBm := Bm.out.lt
  have xBf := Bf.out.cellF
  have zBf := Bf.out.lt
  have xBr := Br.out.cellF
  have zBr := Br.out.lt
  clear hz hb
  go_wp2_with fail
  refine (H2.out _ (by have := HB.out; exact blBy)).mono ?_
  rintro e w2 ⟨rfl, hb⟩
  have hz := hb
  clear xBt zBt xBm zBm xBf zBf xBr zBr
  replace Bt := hid (Bt.out.kept hz)
  replace Bm := hid (Bm.out.kept hz)
  replace Bf := hid (Bf.out.kept hz)
  replace Br := hid (Br.out.kept hz)
  replace HB := hid (below_trans HB.out hz)
  have xBt := Bt.out.cellF
  have zBt := Bt.out.lt
  have xBm := Bm.out.cellF
  have zBm := Bm.out.lt
  have xBf := Bf.out.cellF
  have zBf := Bf.out.lt
  have xBr := Br.out.cellF
  have zBr := Br.out.lt
  clear hz hb
  go_upto_region 4 with fail
  clear xBt zBt xBm zBm xBf zBf xBr zBr
  replace Bt : Hid (Blk (w2.alloc (.cells #[.string (strOfNums a.name), .int .i64 a.num, .int .i64 a.kind, .int .i64 a.ref, .int .i64 a.lab, .int .i64 a.one, .int .i64 a.key] 82)) (w.heap.size) 46 #[.slice ta l.length tc]) := hid (Bt.out.kept (below_alloc _))
  replace Bm : Hid (Blk (w2.alloc (.cells #[.string (strOfNums a.name), .int .i64 a.num, .int .i64 a.kind, .int .i64 a.ref, .int .i64 a.lab, .int .i64 a.one, .int .i64 a.key] 82)) (w.heap.size + 1) 35 #[.slice a1 m.fs.length c1, .slice a2 m.us.length c2]) := hid (Bm.out.kept (below_alloc _))
  replace Bf : Hid (Blk (w2.alloc (.cells #[.string (strOfNums a.name), .int .i64 a.num, .int .i64 a.kind, .int .i64 a.ref, .int .i64 a.lab, .int .i64 a.one, .int .i64 a.key] 82)) (w.heap.size + 1 + 1) 29 #[.int .i64 f.num, .slice ka f.ks.length kc, .slice va f.vs.length vc]) := hid (Bf.out.kept (below_alloc _))
  replace Br : Hid (Blk (w2.alloc (.cells #[.string (strOfNums a.name), .int .i64 a.num, .int .i64 a.kind, .int .i64 a.ref, .int .i64 a.lab, .int .i64 a.one, .int .i64 a.key] 82)) (w.heap.size + 1 + 1 + 1) 35 #[.slice none 0 0, .slice none 0 0]) := hid (Br.out.kept (below_alloc _))
  have Bx : Hid (Blk (w2.alloc (.cells #[.string (strOfNums a.name), .int .i64 a.num, .int .i64 a.kind, .int .i64 a.ref, .int .i64 a.lab, .int .i64 a.one, .int .i64 a.key] 82)) w2.heap.size 82 #[.string (strOfNums a.name), .int .i64 a.num, .int .i64 a.kind, .int .i64 a.ref, .int .i64 a.lab, .int .i64 a.one, .int .i64 a.key]) := hid (Blk.new _ _ _)
  replace HB : Hid (Below w.heap.size w (w2.alloc (.cells #[.string (strOfNums a.name), .int .i64 a.num, .int .i64 a.kind, .int .i64 a.ref, .int .i64 a.lab, .int .i64 a.one, .int .i64 a.key] 82))) := hid (below_trans HB.out (below_alloc _))
  generalize (w2.alloc (.cells #[.string (strOfNums a.name), .int .i64 a.num, .int .i64 a.kind, .int .i64 a.ref, .int .i64 a.lab, .int .i64 a.one, .int .i64 a.key] 82)) = wz at *
  have HSK : Hid (∀ W, Below wz.heap.size wz W → (fun W => (∀ k, W.cell? ⟨w.heap.size, k, none⟩ = #[.slice ta l.length tc][k]?) ∧ (∀ k, W.cell? ⟨w.heap.size + 1, k, none⟩ = #[.slice a1 m.fs.length c1, .slice a2 m.us.length c2][k]?) ∧ (∀ k, W.cell? ⟨w.heap.size + 1 + 1, k, none⟩ = #[.int .i64 f.num, .slice ka f.ks.length kc, .slice va f.vs.length vc][k]?) ∧ (∀ k, W.cell? ⟨w2.heap.size, k, none⟩ = #[.string (strOfNums a.name), .int .i64 a.num, .int .i64 a.kind, .int .i64 a.ref, .int .i64 a.lab, .int .i64 a.one, .int .i64 a.key][k]?)) W) := hid fun W hW => ⟨(Bt.out.kept hW).cellF, (Bm.out.kept hW).cellF, (Bf.out.kept hW).cellF, (Bx.out.kept hW).cellF⟩
  go_cut [12] from 27 to 33 (fun s12 wc => ∃ (Q : Nat) (pa : Option Addr) (pc : Nat) (ra : Option Addr) (rc : Nat), s12 = .pointer (some ⟨Q, 0, none⟩) ∧ wz.heap.size ≤ Q ∧ Hid (Blk wc Q 35 #[.slice pa wm.fs.length pc, .slice ra wm.us.length rc]) ∧ Hid (MsgE wc (fun b => b ≠ w.heap.size + 1 + 1 + 1) (d + 1) [.slice pa wm.fs.length pc, .slice ra wm.us.length rc] wm) ∧ Hid (Below wz.heap.size wz wc))
  case first =>
    refine wp_region_held_drew (S := (fun W => (∀ k, W.cell? ⟨w.heap.size, k, none⟩ = #[.slice ta l.length tc][k]?) ∧ (∀ k, W.cell? ⟨w.heap.size + 1, k, none⟩ = #[.slice a1 m.fs.length c1, .slice a2 m.us.length c2][k]?) ∧ (∀ k, W.cell? ⟨w.heap.size + 1 + 1, k, none⟩ = #[.int .i64 f.num, .slice ka f.ks.length kc, .slice va f.vs.length vc][k]?) ∧ (∀ k, W.cell? ⟨w2.heap.size, k, none⟩ = #[.string (strOfNums a.name), .int .i64 a.num, .int .i64 a.kind, .int .i64 a.ref, .int .i64 a.lab, .int .i64 a.one, .int .i64 a.key][k]?))) (by kernel_rfl) ?_ (fun hHeld => ?_)
    · exact HSK.out _ (below_drew1 _)
    refine wpAnyH_take (i := 0) (v := ?_) rfl (by kernel_rfl) (by kernel_rfl) (by kernel_rfl) (fun _ _ _ h => h) (Or.inl ⟨by rfl, ?_⟩) (by assumption) ?_
    rotate_left
    · (intro w hSw; (try dsimp only at hSw); go_simp; (try with_reducible rfl))
    try go_frame
    refine wpAnyH_take (i := 1) (v := ?_) rfl (by kernel_rfl) (by kernel_rfl) (by kernel_rfl) (fun _ _ _ h => h) (Or.inl ⟨by rfl, ?_⟩) (by assumption) ?_
    rotate_left
    · (intro w hSw; (try dsimp only at hSw); go_simp; (try with_reducible rfl))
    try go_frame
    refine wpAnyH_take (i := 2) (v := ?_) rfl (by kernel_rfl) (by kernel_rfl) (by kernel_rfl) (fun _ _ _ h => h) (Or.inl ⟨by rfl, ?_⟩) (by assumption) ?_
    rotate_left
    · (intro w hSw; (try dsimp only at hSw); go_simp; (try with_reducible rfl))
    try go_frame
    refine wpAnyH_take (i := 3) (v := ?_) rfl (by kernel_rfl) (by kernel_rfl) (by kernel_rfl) (fun _ _ _ h => h) (Or.inl ⟨by rfl, ?_⟩) (by assumption) ?_
    rotate_left
    · (intro w hSw; (try dsimp only at hSw); go_simp; (try with_reducible rfl))
    try go_frame
    refine wpAnyH_take (i := 5) (v := ?_) rfl (by kernel_rfl) (by kernel_rfl) (by kernel_rfl) (fun _ _ _ h => h) (Or.inl ⟨by rfl, ?_⟩) (by assumption) ?_
    rotate_left
    · (intro w hSw; (try dsimp only at hSw); go_simp; (try with_reducible rfl))
    try go_frame
    have KC : Hid (Below wz.heap.size wz wz.drew) := hid (below_drew1 _)
    generalize wz.drew = v0 at *
    refine wpAnyH_ready (rs := [4, 7]) (by kernel_rfl) (by simp) ?_
    refine AllReadyH.cons rfl (fun K hK => ?_) ?_
    · go_simp
      go_wp2_with (go_at_call 71; refine (H3.out _ (below_trans HB.out KC.out)).mono ?_; rintro e v1 ⟨ds, rfl, hn, hbu⟩; obtain ⟨oa, oc, ub, uc, rfl, -⟩ := msg_openD hn; have HO : Hid (MsgE v1 AnyZ (d + 1) [.slice oa om.fs.length oc, .slice ub om.us.length uc] om) := hid hn; replace KC := hid (below_trans KC.out hbu); clear hn hbu)
      refine hK.out _ _ ?_ (fun hHeld => ?_)
      · first | assumption | exact HSK.out _ (KC.out)
      clear hK K
      try go_frame
      refine wpAnyH_ready (rs := [6, 7]) (by kernel_rfl) (by simp) ?_
      refine AllReadyH.cons rfl (fun K hK => ?_) ?_
      · go_simp
        go_wp2_with (go_at_call 70; refine (putD d _ AnyZ [.slice oa om.fs.length oc, .slice ub om.us.length uc] [.int .i64 f.num, .slice ka f.ks.length kc, .slice va f.vs.length vc] om f HO.out ((famF d).go HFF.out (keepT (below_trans HB.out KC.out)) (fun _ _ => trivial) (fun _ _ => trivial)) HOL.out).mono ?_; rintro e v2 ⟨ds, rfl, hn, hbu⟩; rw [HPW.out] at hn; have HP : Hid (MsgE v2 (fun b => wz.heap.size ≤ b) (d + 1) ds wm) := hid (MsgE.go (Keep.refl (fun _ => True) v2) (fun _ _ => trivial) (fun b hz => by have h2 : v1.heap.size ≤ b := hz; have h3 := KC.out.size; omega) _ _ _ hn); obtain ⟨pa, pc, ra, rc, rfl, -⟩ := msg_openD HP.out; replace KC := hid (below_trans KC.out hbu); clear hn hbu)
        refine hK.out _ _ ?_ (fun hHeld => ?_)
        · first | assumption | exact HSK.out _ (KC.out)
        clear hK K
        try go_frame
        refine wpAnyH_ready (rs := [7]) (by kernel_rfl) (by simp) ?_
        refine AllReadyH.cons rfl (fun K hK => ?_) ?_
        · go_simp
          refine hK.out _ _ ?_ (fun hHeld => ?_)
          · first | assumption | exact HSK.out _ (below_trans KC.out (below_alloc _))
          clear hK K
          try go_frame
          have HQ : Hid (Blk (v2.alloc (.cells #[.slice none 0 0, .slice none 0 0] 35)) v2.heap.size 35 #[.slice none 0 0, .slice none 0 0]) := hid (Blk.new _ _ _)
          have hQ : wz.heap.size ≤ v2.heap.size := KC.out.size
          replace HP : Hid (MsgE (v2.alloc (.cells #[.slice none 0 0, .slice none 0 0] 35)) (fun b => b ≠ v2.heap.size ∧ wz.heap.size ≤ b) (d + 1) [.slice pa wm.fs.length pc, .slice ra wm.us.length rc] wm) := hid (MsgE.go (keepT (below_alloc _)) (fun _ _ => trivial) (fun b hz => ⟨by have := hz.2; omega, hz.1⟩) _ _ _ (MsgE.old _ _ _ HP.out))
          replace KC : Hid (Below wz.heap.size wz (v2.alloc (.cells #[.slice none 0 0, .slice none 0 0] 35))) := hid (below_trans KC.out (below_alloc _))
          generalize (v2.alloc (.cells #[.slice none 0 0, .slice none 0 0] 35)) = v3 at *
          generalize v2.heap.size = Q at *
          refine wpAnyH_ready (rs := [8]) (by kernel_rfl) (by simp) ?_
          refine AllReadyH.cons rfl (fun K hK => ?_) ?_
          · have xq := HQ.out.cellF
            have yq := HQ.out.frz
            have zq := HQ.out.lt
            go_simp
            refine hK.out _ _ ?_ (fun hHeld => ?_)
            · first | assumption | exact HSK.out _ ((KC.out.setCell (by simp; omega) _).setCell (by simp; omega) _)
            clear hK K
            try go_frame
            refine wpAnyH_done (by kernel_rfl) ?_ _
            go_wp2_with fail
            go_meet
            exact ⟨Q, pa, pc, ra, rc, rfl, hQ, hid (((HQ.out.set 0 _).set 1 _).is (by simp)), hid (MsgE.go (f := fun b => b ≠ Q ∧ wz.heap.size ≤ b) (by with_reducible repeat (first | exact Keep.refl _ _ | refine kpS ?_ (by first | (simp; done) | (simp; omega) | omega))) (fun _ h => h) (fun b hz => by have h1 := Br.out.lt; have h2 := hz.2; omega) _ _ _ HP.out), hid ((KC.out.setCell (by simp; omega) _).setCell (by simp; omega) _)⟩
          exact AllReadyH.nil
        exact AllReadyH.nil
      refine AllReadyH.cons rfl (fun K hK => ?_) ?_
      · go_simp
        refine hK.out _ _ ?_ (fun hHeld => ?_)
        · first | assumption | exact HSK.out _ (below_trans KC.out (below_alloc _))
        clear hK K
        try go_frame
        have HQ : Hid (Blk (v1.alloc (.cells #[.slice none 0 0, .slice none 0 0] 35)) v1.heap.size 35 #[.slice none 0 0, .slice none 0 0]) := hid (Blk.new _ _ _)
        have hQ : wz.heap.size ≤ v1.heap.size := KC.out.size
        replace HO : Hid (MsgE (v1.alloc (.cells #[.slice none 0 0, .slice none 0 0] 35)) AnyZ (d + 1) [.slice oa om.fs.length oc, .slice ub om.us.length uc] om) := hid (HO.out.kept (below_alloc _))
        replace KC : Hid (Below wz.heap.size wz (v1.alloc (.cells #[.slice none 0 0, .slice none 0 0] 35))) := hid (below_trans KC.out (below_alloc _))
        generalize (v1.alloc (.cells #[.slice none 0 0, .slice none 0 0] 35)) = v2 at *
        generalize v1.heap.size = Q at *
        refine wpAnyH_ready (rs := [6]) (by kernel_rfl) (by simp) ?_
        refine AllReadyH.cons rfl (fun K hK => ?_) ?_
        · go_simp
          go_wp2_with (go_at_call 70; refine (putD d _ AnyZ [.slice oa om.fs.length oc, .slice ub om.us.length uc] [.int .i64 f.num, .slice ka f.ks.length kc, .slice va f.vs.length vc] om f HO.out ((famF d).go HFF.out (keepT (below_trans HB.out KC.out)) (fun _ _ => trivial) (fun _ _ => trivial)) HOL.out).mono ?_; rintro e v3 ⟨ds, rfl, hn, hbu⟩; rw [HPW.out] at hn; have HP : Hid (MsgE v3 (fun b => b ≠ Q ∧ wz.heap.size ≤ b) (d + 1) ds wm) := hid (MsgE.go (Keep.refl (fun _ => True) v3) (fun _ _ => trivial) (fun b hz => by have h1 := HQ.out.lt; have h2 : v2.heap.size ≤ b := hz; have h3 := KC.out.size; exact ⟨by omega, by omega⟩) _ _ _ hn); obtain ⟨pa, pc, ra, rc, rfl, -⟩ := msg_openD HP.out; replace HQ := hid (HQ.out.kept hbu); replace KC := hid (below_trans KC.out hbu); clear hn hbu)
          refine hK.out _ _ ?_ (fun hHeld => ?_)
          · first | assumption | exact HSK.out _ (KC.out)
          clear hK K
          try go_frame
          refine wpAnyH_ready (rs := [8]) (by kernel_rfl) (by simp) ?_
          refine AllReadyH.cons rfl (fun K hK => ?_) ?_
          · have xq := HQ.out.cellF
            have yq := HQ.out.frz
            have zq := HQ.out.lt
            go_simp
            refine hK.out _ _ ?_ (fun hHeld => ?_)
            · first | assumption | exact HSK.out _ ((KC.out.setCell (by simp; omega) _).setCell (by simp; omega) _)
            clear hK K
            try go_frame
            refine wpAnyH_done (by kernel_rfl) ?_ _
            go_wp2_with fail
            go_meet
            exact ⟨Q, pa, pc, ra, rc, rfl, hQ, hid (((HQ.out.set 0 _).set 1 _).is (by simp)), hid (MsgE.go (f := fun b => b ≠ Q ∧ wz.heap.size ≤ b) (by with_reducible repeat (first | exact Keep.refl _ _ | refine kpS ?_ (by first | (simp; done) | (simp; omega) | omega))) (fun _ h => h) (fun b hz => by have h1 := Br.out.lt; have h2 := hz.2; omega) _ _ _ HP.out), hid ((KC.out.setCell (by simp; omega) _).setCell (by simp; omega) _)⟩
          exact AllReadyH.nil
        exact AllReadyH.nil
      exact AllReadyH.nil
    refine AllReadyH.cons rfl (fun K hK => ?_) ?_
    · go_simp
      refine hK.out _ _ ?_ (fun hHeld => ?_)
      · first | assumption | exact HSK.out _ (below_trans KC.out (below_alloc _))
      clear hK K
      try go_frame
      have HQ : Hid (Blk (v0.alloc (.cells #[.slice none 0 0, .slice none 0 0] 35)) v0.heap.size 35 #[.slice none 0 0, .slice none 0 0]) := hid (Blk.new _ _ _)
      have hQ : wz.heap.size ≤ v0.heap.size := KC.out.size
      replace KC : Hid (Below wz.heap.size wz (v0.alloc (.cells #[.slice none 0 0, .slice none 0 0] 35))) := hid (below_trans KC.out (below_alloc _))
      generalize (v0.alloc (.cells #[.slice none 0 0, .slice none 0 0] 35)) = v1 at *
      generalize v0.heap.size = Q at *
      refine wpAnyH_ready (rs := [4]) (by kernel_rfl) (by simp) ?_
      refine AllReadyH.cons rfl (fun K hK => ?_) ?_
      · go_simp
        go_wp2_with (go_at_call 71; refine (H3.out _ (below_trans HB.out KC.out)).mono ?_; rintro e v2 ⟨ds, rfl, hn, hbu⟩; obtain ⟨oa, oc, ub, uc, rfl, -⟩ := msg_openD hn; have HO : Hid (MsgE v2 AnyZ (d + 1) [.slice oa om.fs.length oc, .slice ub om.us.length uc] om) := hid hn; replace HQ := hid (HQ.out.kept hbu); replace KC := hid (below_trans KC.out hbu); clear hn hbu)
        refine hK.out _ _ ?_ (fun hHeld => ?_)
        · first | assumption | exact HSK.out _ (KC.out)
        clear hK K
        try go_frame
        refine wpAnyH_ready (rs := [6]) (by kernel_rfl) (by simp) ?_
        refine AllReadyH.cons rfl (fun K hK => ?_) ?_
        · go_simp
          go_wp2_with (go_at_call 70; refine (putD d _ AnyZ [.slice oa om.fs.length oc, .slice ub om.us.length uc] [.int .i64 f.num, .slice ka f.ks.length kc, .slice va f.vs.length vc] om f HO.out ((famF d).go HFF.out (keepT (below_trans HB.out KC.out)) (fun _ _ => trivial) (fun _ _ => trivial)) HOL.out).mono ?_; rintro e v3 ⟨ds, rfl, hn, hbu⟩; rw [HPW.out] at hn; have HP : Hid (MsgE v3 (fun b => b ≠ Q ∧ wz.heap.size ≤ b) (d + 1) ds wm) := hid (MsgE.go (Keep.refl (fun _ => True) v3) (fun _ _ => trivial) (fun b hz => by have h1 := HQ.out.lt; have h2 : v2.heap.size ≤ b := hz; have h3 := KC.out.size; exact ⟨by omega, by omega⟩) _ _ _ hn); obtain ⟨pa, pc, ra, rc, rfl, -⟩ := msg_openD HP.out; replace HQ := hid (HQ.out.kept hbu); replace KC := hid (below_trans KC.out hbu); clear hn hbu)
          refine hK.out _ _ ?_ (fun hHeld => ?_)
          · first | assumption | exact HSK.out _ (KC.out)
          clear hK K
          try go_frame
          refine wpAnyH_ready (rs := [8]) (by kernel_rfl) (by simp) ?_
          refine AllReadyH.cons rfl (fun K hK => ?_) ?_
          · have xq := HQ.out.cellF
            have yq := HQ.out.frz
            have zq := HQ.out.lt
            go_simp
            refine hK.out _ _ ?_ (fun hHeld => ?_)
            · first | assumption | exact HSK.out _ ((KC.out.setCell (by simp; omega) _).setCell (by simp; omega) _)
            clear hK K
            try go_frame
            refine wpAnyH_done (by kernel_rfl) ?_ _
            go_wp2_with fail
            go_meet
            exact ⟨Q, pa, pc, ra, rc, rfl, hQ, hid (((HQ.out.set 0 _).set 1 _).is (by simp)), hid (MsgE.go (f := fun b => b ≠ Q ∧ wz.heap.size ≤ b) (by with_reducible repeat (first | exact Keep.refl _ _ | refine kpS ?_ (by first | (simp; done) | (simp; omega) | omega))) (fun _ h => h) (fun b hz => by have h1 := Br.out.lt; have h2 := hz.2; omega) _ _ _ HP.out), hid ((KC.out.setCell (by simp; omega) _).setCell (by simp; omega) _)⟩
          exact AllReadyH.nil
        exact AllReadyH.nil
      exact AllReadyH.nil
    exact AllReadyH.nil
  case rest =>
    obtain ⟨Q, pa, pc, ra, rc, rfl, hQ, BQ, HP, KC⟩ := hcut
    replace HB := hid (below_trans HB.out KC.out)
    replace Bt := hid (Bt.out.kept KC.out)
    replace Br := hid (Br.out.kept KC.out)
    have xBt := Bt.out.cellF
    have zBt := Bt.out.lt
    have xBQ := BQ.out.cellF
    have zBQ := BQ.out.lt
    go_wp2_with fail
    refine (H5.out _ (by have := HB.out; exact blBy) _ _ HP.out).mono ?_
    rintro e w4 ⟨rfl, hb⟩
    replace HB := hid (below_trans HB.out hb)
    replace Br := hid (Br.out.kept hb)
    replace BQ := hid (BQ.out.kept hb)
    replace HP := hid (HP.out.kept hb)
    clear xBt zBt xBQ zBQ
    have xr := Br.out.cellF
    have yr := Br.out.frz
    have zr := Br.out.lt
    have xq := BQ.out.cellF
    have zq := BQ.out.lt
    cases kb with
    | false =>
      go_wp2
      exact bodyPost_ret (v := .tuple #[.agg #[.slice none 0 0, .slice none 0 0], .bool false]) (by simp [results, Tryz.results34, go_sem, xr, yr, zr]) rfl ⟨fun q => (by cases q), fun _ => rfl, by have := HB.out; exact blBy⟩
    | true =>
      go_wp2
      exact bodyPost_ret (v := .tuple #[.agg #[.slice pa wm.fs.length pc, .slice ra wm.us.length rc], .bool true]) (by simp [results, Tryz.results34, go_sem, xr, yr, zr]) rfl ⟨fun _ => ⟨[.slice pa wm.fs.length pc, .slice ra wm.us.length rc], rfl, MsgE.go (f := fun b => b ≠ w.heap.size + 1 + 1 + 1) (by with_reducible repeat (first | exact Keep.refl _ _ | refine kpS ?_ (by first | (simp; done) | (simp; omega) | omega) | refine kpA ?_ _ | refine kpD ?_ | refine kpN ?_ _)) (fun _ h => h) (fun _ _ => trivial) _ _ _ HP.out⟩, fun q => (by cases q), by have := HB.out; exact blBy⟩
theorem setDno (w : World) (l : List TV) (ta : Option Addr) (tc : Nat) (h : TbR w (.slice ta l.length tc) l) (hg : goodB l = true) (hs : ∀ y ∈ l, ∀ s ∈ y.t.ss, I64 s.num) (k : Nat) (hkl : k < l.length) (Z : Nat → Prop) (d : Nat) (cs : List Value) (m : CM) (hm : MsgE w Z d cs m) (fi : Int) (ka va : Option Addr) (kn kc vn vc : Nat) (hq : keptB l d l[k] m = false) : Calls Tryz.prog 34 #[.agg #[.slice ta l.length tc], .int .i64 (k : Int), .agg cs.toArray, .agg #[.int .i64 fi, .slice ka kn kc, .slice va vn vc]] w fun e w' => e = .returned (.tuple #[.agg #[.slice none 0 0, .slice none 0 0], .bool false]) ∧ Below w.heap.size w w' := by
  have H1 := hid fun W (hW : Below w.heap.size w W) => typedD l ta tc hg hs d W Z k hkl cs m (h.kept hW) (hm.kept hW)
  rw [hq] at H1
  obtain ⟨a1, c1, a2, c2, rfl, -⟩ := msg_openD hm
  clear h hg hs hm hq
  go_enter Tryz.func34, Tryz.ntmps34
  go_wp2_with fail
  refine (H1.out _ (by exact blBy)).mono ?_
  rintro e w1 ⟨rfl, hb⟩
  have Br : Hid (Blk w1 (w.heap.size + 1 + 1 + 1) 35 #[.slice none 0 0, .slice none 0 0]) := hid ((Blk.newAt (by simp)).kept hb)
  have HB : Hid (Below w.heap.size w w1) := hid (bl_then (by exact blBy) hb)
  have xr := Br.out.cellF
  have yr := Br.out.frz
  have zr := Br.out.lt
  clear hb
  go_wp2
  exact bodyPost_ret (v := .tuple #[.agg #[.slice none 0 0, .slice none 0 0], .bool false]) (by simp [results, Tryz.results34, go_sem, xr, yr, zr]) rfl ⟨rfl, by have := HB.out; exact blBy⟩
end Go.Proofs.YtgephggcgopfgaaGreatDoor
namespace Go.Proofs.YtgephggcgopfgaaGreatDoor
open Go.RowKit
set_option maxRecDepth 1000000
set_option linter.unusedVariables false
set_option linter.unusedSimpArgs false
set_option maxHeartbeats 1000000
theorem below_keepB {f : Nat → Prop} {w w1 w2 : World} (h : Below w.heap.size w w1) (g : Keep f w1 w2) (hf : ∀ k, k < w.heap.size → f k) : Below w.heap.size w w2 := ⟨g.os.trans h.os, g.tape.trans h.tape, g.output.trans h.output, Nat.le_trans h.size g.size, fun k hk => (g.block k (Nat.lt_of_lt_of_le hk h.size) (hf k hk)).trans (h.block k hk)⟩
def SetR (d : Nat) (w : World) (b : Bool) (m : CM) (e : Ending) (w' : World) : Prop := (b = true → ∃ ds : List Value, e = .returned (.tuple #[.agg ds.toArray, .int .i64 0]) ∧ MsgE w' (w.heap.size ≤ ·) d ds m) ∧ (b = false → e = .returned (.tuple #[.agg #[.slice none 0 0, .slice none 0 0], .int .i64 10])) ∧ Below w.heap.size w w'
theorem setOk (w : World) (l : List TV) (ta : Option Addr) (tc : Nat) (h : TbR w (.slice ta l.length tc) l) (hk : ∀ x ∈ l, OkV x) (mx : Int) (hm0 : w.cell? ⟨0, 0, none⟩ = some (.int .i64 mx)) (k : Nat) (hkl : k < l.length) (hg : goodB l = true) (he : l[k].t.enum = false) (Z : Nat → Prop) (d : Nat) (cs cf : List Value) (m : CM) (f : CF CM) (hm : MsgE w Z (d + 1) cs m) (hf : FldE w Z (MsgE w Z d) cf f) (hq : keptB l (d + 1) l[k] m = true) : Calls Tryz.prog 33 #[.agg #[.slice ta l.length tc], .int .i64 (k : Int), .agg cs.toArray, .agg cf.toArray] w (SetR (d + 1) w (keptB l (d + 1) l[k] (withM l[k].t.fs m f)) (withM l[k].t.fs m f)) := by
  obtain ⟨Y, hY, hm, hf⟩ : ∃ Y : Nat → Prop, (∀ b, Y b → b < w.heap.size) ∧ MsgE w Y (d + 1) cs m ∧ FldE w Y (MsgE w Y d) cf f := ⟨_, fun b h => h.2, MsgE.old _ _ _ hm, (famF d).old hf⟩
  have hr := good_rise hg (List.getElem_mem hkl)
  have HA := hid fun W (hW : Below w.heap.size w W) => typedAtOk W l ta tc (h.kept hW) hk mx (cell_below hm0 hW) k hkl hg he Y (d + 1) cs m (hm.kept hW) hq
  have HW := hid fun W (hW : Below w.heap.size w W) => withT W l[k] ((h.kept hW).ty l[k] (List.getElem_mem hkl)) hr.1 hr.2 Y d cs cf m f (hm.kept hW) (hf.kept hW) (by have := kept_len hq; have := hr.2; omega)
  have HK := hid fun W (hW : Below w.heap.size w W) (Z' : Nat → Prop) (ds : List Value) (hd : MsgE W Z' (d + 1) ds (withM l[k].t.fs m f)) => areKeptT W l ta tc (h.kept hW) hg l[k] (List.getElem_mem hkl) Z' (d + 1) ds _ hd
  obtain ⟨ta1, tc1, ta2, tc2, ta3, tc3, ta4, tc4, e1, e2, e3, e4⟩ := shT_of (h.ty l[k] (List.getElem_mem hkl))
  have ec : cTV l[k] = [.string (strOfNums l[k].t.name), .bool false, .slice ta1 l[k].t.fs.length tc1, .slice ta2 l[k].t.os.length tc2, .slice ta3 l[k].t.ss.length tc3, .slice ta4 l[k].t.rs.length tc4] := by unfold cTV; rw [e1, e2, e3, e4, he]
  obtain ⟨fa, fc, ua, uc, rfl, -⟩ := msg_openD hm
  obtain ⟨ka, kc, va, vc, rfl, -⟩ := fld_open hf
  rw [ec] at HW HK
  rw [e1, e2, e3, e4] at HA
  clear h hg hm hf e1 e2 e3 e4 ec hm0 hk he hq hr
  generalize keptB l (d + 1) l[k] (withM l[k].t.fs m f) = kb at *
  generalize withM l[k].t.fs m f = wm at *
  generalize l[k] = x at *
  go_enter Tryz.func33, Tryz.ntmps33
  go_wp2_with fail
  refine (HA.out _ (by exact blBy)).mono ?_
  rintro e w1 ⟨rfl, hb1⟩
  have HB1 : Hid (Below w.heap.size w w1) := hid (bl_then (by exact blBy) hb1)
  have Bm : Hid (Blk w1 (w.heap.size + 1) 35 #[.slice fa m.fs.length fc, .slice ua m.us.length uc]) := hid ((((Blk.newAt (by simp)).kept (below_alloc _)).kept (below_alloc _)).kept hb1)
  have Bf : Hid (Blk w1 (w.heap.size + 1 + 1) 29 #[.int .i64 f.num, .slice ka f.ks.length kc, .slice va f.vs.length vc]) := hid (((Blk.newAt (by simp)).kept (below_alloc _)).kept hb1)
  have Br : Hid (Blk w1 (w.heap.size + 1 + 1 + 1) 35 #[.slice none 0 0, .slice none 0 0]) := hid ((Blk.newAt (by simp)).kept hb1)
  have hs1 : Hid (w.heap.size + 4 ≤ w1.heap.size) := hid (by have := hb1.size; simpa using this)
  have xm := Bm.out.cellF
  have zm := Bm.out.lt
  have xf := Bf.out.cellF
  have zf := Bf.out.lt
  have zt1 : w.heap.size < w1.heap.size := by have := hb1.size; simp at this; omega
  have zm1 : w.heap.size + 1 < w1.heap.size := by have := hb1.size; simp at this; omega
  have zf1 : w.heap.size + 1 + 1 < w1.heap.size := by have := hb1.size; simp at this; omega
  clear HA hb1
  go_wp2_with fail
  refine (HW.out _ (by have := HB1.out; exact blBy)).mono ?_
  rintro e w2 ⟨ds, rfl, hn, hb2⟩
  have hz2 : Below w1.heap.size w1 w2 := bl_then (by exact blBy) hb2
  have HN : Hid (MsgE w2 (fun b => Y b ∨ w1.heap.size + 2 ≤ b) (d + 1) ds wm) := hid (MsgE.go (Keep.refl (fun _ => True) w2) (fun _ _ => trivial) (fun b hz => by rcases hz with hz | hz; exact Or.inl hz; exact Or.inr (by simpa using hz)) _ _ _ hn)
  have Bx : Hid (Blk w2 w1.heap.size 71 #[.string (strOfNums x.t.name), .bool false, .slice ta1 x.t.fs.length tc1, .slice ta2 x.t.os.length tc2, .slice ta3 x.t.ss.length tc3, .slice ta4 x.t.rs.length tc4]) := hid (((Blk.new _ _ _).kept (below_alloc _)).kept hb2)
  have Bq : Hid (Blk w2 (w1.heap.size + 1) 73 #[.slice ta l.length tc]) := hid ((Blk.newAt (by simp)).kept hb2)
  replace Bm := hid (Bm.out.kept hz2)
  replace Br := hid (Br.out.kept hz2)
  have HB2 : Hid (Below w.heap.size w w2) := hid (below_trans HB1.out hz2)
  have hs2 : Hid (w1.heap.size + 2 ≤ w2.heap.size) := hid (by have := hb2.size; simpa using this)
  obtain ⟨na, nc, va2, vc2, rfl, -⟩ := msg_openD HN.out
  have xm := Bm.out.cellF
  have ym := Bm.out.frz
  have zm := Bm.out.lt
  have xx := Bx.out.cellF
  have zx := Bx.out.lt
  have xq := Bq.out.cellF
  have zq := Bq.out.lt
  have n1 : w1.heap.size + 1 ≠ w.heap.size + 1 := by have := hs1.out; omega
  have n2 : w1.heap.size ≠ w.heap.size + 1 := by have := hs1.out; omega
  clear hb2 hz2 hn HW xf zf
  go_wp2_with fail
  have KE : Hid (Keep (fun b => b ≠ w.heap.size + 1) w2 ((w2.setCell ⟨w.heap.size + 1, 0, none⟩ (.slice na wm.fs.length nc)).setCell ⟨w.heap.size + 1, 1, none⟩ (.slice va2 wm.us.length vc2))) := hid (by with_reducible repeat (first | exact Keep.refl _ _ | refine kpS ?_ (by first | (simp; done) | (simp; omega) | omega)))
  have Bm3 : Hid (Blk ((w2.setCell ⟨w.heap.size + 1, 0, none⟩ (.slice na wm.fs.length nc)).setCell ⟨w.heap.size + 1, 1, none⟩ (.slice va2 wm.us.length vc2)) (w.heap.size + 1) 35 #[.slice na wm.fs.length nc, .slice va2 wm.us.length vc2]) := hid (((Bm.out.set 0 _).set 1 _).is (by simp))
  generalize ((w2.setCell ⟨w.heap.size + 1, 0, none⟩ (.slice na wm.fs.length nc)).setCell ⟨w.heap.size + 1, 1, none⟩ (.slice va2 wm.us.length vc2)) = w3 at *
  have HB3 : Hid (Below w.heap.size w w3) := hid (below_keepB HB2.out KE.out (fun k hk => by omega))
  replace Br := hid (Br.out.keep KE.out (by omega))
  have HN3 : Hid (MsgE w3 AnyZ (d + 1) [.slice na wm.fs.length nc, .slice va2 wm.us.length vc2] wm) := hid (MsgE.go KE.out (fun b hz => by rcases hz with hz | hz; (have := hY b hz; omega); (have := hs1.out; omega)) (fun _ _ => trivial) _ _ _ HN.out)
  have hs3 : w2.heap.size ≤ w3.heap.size := KE.out.size
  clear xm ym zm xx zx xq zq HN HB2 Bm Bx Bq KE
  refine (HK.out _ HB3.out _ _ HN3.out).mono ?_
  rintro e w4 ⟨rfl, hb4⟩
  have Bm4 := hid (Bm3.out.kept hb4)
  replace Br := hid (Br.out.kept hb4)
  replace HB3 := hid (below_trans HB3.out hb4)
  replace HN3 := hid (HN3.out.kept hb4)
  have hs4 := hb4.size
  clear HK hb4 Bm3
  have xm := Bm4.out.cellF
  have zm := Bm4.out.lt
  have zt1 : w.heap.size < w4.heap.size := by have := hs1.out; have := hs2.out; omega
  have zr1 : w.heap.size + 1 + 1 + 1 < w4.heap.size := by have := hs1.out; have := hs2.out; omega
  cases kb with
  | false =>
    have xr := Br.out.cellF
    have yr := Br.out.frz
    have zr := Br.out.lt
    go_wp2
    exact bodyPost_ret (v := .tuple #[.agg #[.slice none 0 0, .slice none 0 0], .int .i64 10]) (by simp [results, Tryz.results33, go_sem, xr, yr, zr]) rfl ⟨fun q => (by cases q), fun _ => rfl, by have := HB3.out; exact blBy⟩
  | true =>
    go_wp2_with fail
    refine (copyT (d + 1) _ AnyZ _ wm HN3.out).mono ?_
    rintro e w5 ⟨es, rfl, hn, hb5⟩
    have HN5 : Hid (MsgE w5 (w.heap.size + 4 ≤ ·) (d + 1) es wm) := hid (MsgE.go (Keep.refl (fun _ => True) w5) (fun _ _ => trivial) (fun k hk => by have := hs1.out; have := hs2.out; have hk2 : w4.heap.size ≤ k := hk; omega) _ _ _ hn)
    replace Br := hid (Br.out.kept hb5)
    replace HB3 := hid (below_trans HB3.out hb5)
    obtain ⟨ea, ec, ga, gc, rfl, -⟩ := msg_openD HN5.out
    have xr := Br.out.cellF
    have yr := Br.out.frz
    have zr := Br.out.lt
    clear hn hb5 xm zm HN3 Bm4
    go_wp2
    exact bodyPost_ret (v := .tuple #[.agg #[.slice ea wm.fs.length ec, .slice ga wm.us.length gc], .int .i64 0]) (by simp [results, Tryz.results33, go_sem, xr, yr, zr]) rfl ⟨fun _ => ⟨[.slice ea wm.fs.length ec, .slice ga wm.us.length gc], rfl, MsgE.go (f := (w.heap.size + 4 ≤ ·)) (by with_reducible repeat (first | exact Keep.refl _ _ | refine kpS ?_ (by first | (simp; done) | (simp; omega) | omega) | refine kpA ?_ _ | refine kpD ?_ | refine kpN ?_ _)) (fun _ h => h) (fun k hk => by omega) _ _ _ HN5.out⟩, fun q => (by cases q), by have := HB3.out; exact blBy⟩
theorem setBad (w : World) (l : List TV) (ta : Option Addr) (tc : Nat) (h : TbR w (.slice ta l.length tc) l) (hk : ∀ x ∈ l, OkV x) (mx : Int) (hm0 : w.cell? ⟨0, 0, none⟩ = some (.int .i64 mx)) (k : Nat) (hkl : k < l.length) (hg : goodB l = true) (he : l[k].t.enum = false) (Z : Nat → Prop) (d : Nat) (cs : List Value) (m : CM) (hm : MsgE w Z d cs m) (hq : keptB l d l[k] m = false) (fi : Int) (ka va : Option Addr) (kn kc vn vc : Nat) : Calls Tryz.prog 33 #[.agg #[.slice ta l.length tc], .int .i64 (k : Int), .agg cs.toArray, .agg #[.int .i64 fi, .slice ka kn kc, .slice va vn vc]] w fun e w' => e = .returned (.tuple #[.agg #[.slice none 0 0, .slice none 0 0], .int .i64 10]) ∧ Below w.heap.size w w' := by
  have HA := hid fun W (hW : Below w.heap.size w W) => typedAtBad W l ta tc (h.kept hW) hk mx (cell_below hm0 hW) k hkl hg he Z d cs m (hm.kept hW) hq
  obtain ⟨fa, fc, ua, uc, rfl, -⟩ := msg_openD hm
  clear h hg hm hm0 hk he hq
  go_enter Tryz.func33, Tryz.ntmps33
  go_wp2_with fail
  refine (HA.out _ (by exact blBy)).mono ?_
  rintro e w1 ⟨rfl, hb1⟩
  have HB1 : Hid (Below w.heap.size w w1) := hid (bl_then (by exact blBy) hb1)
  have Br : Blk w1 (w.heap.size + 1 + 1 + 1) 35 #[.slice none 0 0, .slice none 0 0] := (Blk.newAt (by simp)).kept hb1
  have xr := Br.cellF
  have yr := Br.frz
  have zr := Br.lt
  have zt1 : w.heap.size < w1.heap.size := by have := hb1.size; simp at this; omega
  have zm1 : w.heap.size + 1 < w1.heap.size := by have := hb1.size; simp at this; omega
  have zm2 : w.heap.size + 1 + 1 < w1.heap.size := by have := hb1.size; simp at this; omega
  clear HA hb1
  go_wp2
  exact bodyPost_ret (v := .tuple #[.agg #[.slice none 0 0, .slice none 0 0], .int .i64 10]) (by simp [results, Tryz.results33, go_sem, xr, yr, zr, zt1, zm1, zm2]) rfl ⟨rfl, by have := HB1.out; exact blBy⟩
theorem setNo (w : World) (l : List TV) (ta : Option Addr) (tc : Nat) (h : TbR w (.slice ta l.length tc) l) (hk : ∀ x ∈ l, OkV x) (mx : Int) (hm0 : w.cell? ⟨0, 0, none⟩ = some (.int .i64 mx)) (idx : Int) (hno : isB l idx false = false) (fa ua : Option Addr) (fn fc un uc : Nat) (fi : Int) (ka va : Option Addr) (kn kc vn vc : Nat) : Calls Tryz.prog 33 #[.agg #[.slice ta l.length tc], .int .i64 idx, .agg #[.slice fa fn fc, .slice ua un uc], .agg #[.int .i64 fi, .slice ka kn kc, .slice va vn vc]] w fun e w' => e = .returned (.tuple #[.agg #[.slice none 0 0, .slice none 0 0], .int .i64 18]) ∧ Below w.heap.size w w' := by
  have HA := hid fun W (hW : Below w.heap.size w W) => typedAtNo W l ta tc (h.kept hW) hk mx (cell_below hm0 hW) idx hno fa ua fn fc un uc
  clear h hm0 hk hno
  go_enter Tryz.func33, Tryz.ntmps33
  go_wp2_with fail
  refine (HA.out _ (by exact blBy)).mono ?_
  rintro e w1 ⟨rfl, hb1⟩
  have HB1 : Hid (Below w.heap.size w w1) := hid (bl_then (by exact blBy) hb1)
  have Br : Blk w1 (w.heap.size + 1 + 1 + 1) 35 #[.slice none 0 0, .slice none 0 0] := (Blk.newAt (by simp)).kept hb1
  have xr := Br.cellF
  have yr := Br.frz
  have zr := Br.lt
  have zt1 : w.heap.size < w1.heap.size := by have := hb1.size; simp at this; omega
  have zm1 : w.heap.size + 1 < w1.heap.size := by have := hb1.size; simp at this; omega
  have zm2 : w.heap.size + 1 + 1 < w1.heap.size := by have := hb1.size; simp at this; omega
  clear HA hb1
  go_wp2
  exact bodyPost_ret (v := .tuple #[.agg #[.slice none 0 0, .slice none 0 0], .int .i64 18]) (by simp [results, Tryz.results33, go_sem, xr, yr, zr, zt1, zm1, zm2]) rfl ⟨rfl, by have := HB1.out; exact blBy⟩
end Go.Proofs.YtgephggcgopfgaaGreatDoor
namespace Go.Proofs.YtgephggcgopfgaaGreatDoor
set_option linter.unusedVariables false
set_option linter.unusedSimpArgs false
end Go.Proofs.YtgephggcgopfgaaGreatDoor
namespace Go.Proofs.YtgephggcgopfgaaGreatDoor
open Go.RowKit Go.Shelf
set_option maxRecDepth 1000000
attribute [local go_sem] Oper.semAt_some
set_option linter.unusedVariables false
set_option linter.unusedSimpArgs false
set_option maxHeartbeats 2000000
end Go.Proofs.YtgephggcgopfgaaGreatDoor
namespace Go.Proofs.YtgephggcgopfgaaGreatDoor
open Go.RowKit
set_option maxRecDepth 1000000
set_option linter.unusedVariables false
set_option linter.unusedSimpArgs false
set_option maxHeartbeats 1000000
theorem rowM_blk {α : Type} {W : World} {E : List Value → α → Prop} {k p : Nat} {t : TypeId} (ts : List (Tup k)) (xs : List α) (hl : ts.length = xs.length) (hn : xs.length ≤ 4000000) {cs : Array Value} (B : Blk W p t cs) (hc : cs = (ts.flatMap Subtype.val).toArray) (he : ∀ (i : Nat) (t : Tup k) (x : α), ts[i]? = some t → xs[i]? = some x → E t.1 x) : RowM W AnyZ k E (.slice (some ⟨p, 0, none⟩) xs.length xs.length) xs :=
  ⟨ts, rowOf B k xs.length _ hc (by rw [← hl]; exact flatM_len (fun x => x.2) ts) (by omega), hl, hn, he⟩
theorem rowM_one {α : Type} {W : World} {E : List Value → α → Prop} {k p : Nat} {t : TypeId} {cs : List Value} {x : α} (B : Blk W p t cs.toArray) (hk : cs.length = k) (he : E cs x) : RowM W AnyZ k E (.slice (some ⟨p, 0, none⟩) 1 1) [x] :=
  rowM_blk [⟨cs, hk⟩] [x] rfl (by simp) B (by simp) (fun i t y h1 h2 => by
    cases i with
    | zero => simp at h1 h2; subst h1 h2; exact he
    | succ i => simp at h1)
theorem by_nil (W : World) (Z : Nat → Prop) : ByE W Z (.slice none 0 0) [] := ⟨rowS_nil _ _ _, by simp, by simp⟩
theorem val_num (W : World) (Z : Nat → Prop) (R : List Value → CM → Prop) (n : Int) (hn : U64 n) : ValE W Z R [.int .u64 n, .slice none 0 0, .slice none 0 0] ⟨n, [], []⟩ := ⟨_, _, rfl, by_nil W Z, RowM.nil _ _ _ _, hn⟩
def nF (k n : Int) : CF CM := ⟨k, [], [⟨n, [], []⟩]⟩
theorem nW (w : World) (k v : Int) (hk : I64 k) (n : Int) (hv : (IntKind.u64.wrap v) = n) (hn : U64 n) (d : Nat) : Calls Tryz.prog 12 #[.int .i64 k, .int .i64 v] w fun e w' => ∃ cs : List Value, e = .returned (.agg cs.toArray) ∧ cs.length = 3 ∧ FldE w' AnyZ (MsgE w' AnyZ d) cs (nF k n) ∧ Below w.heap.size w w' := by
  go_enter Tryz.func12, Tryz.ntmps12
  go_wp2
  have B : Blk ((w.alloc (.cells #[.int .i64 k, .slice none 0 0, .slice (some ⟨w.heap.size + 1, 0, none⟩) 1 1] 29)).alloc (.cells #[.int .u64 n, .slice none 0 0, .slice none 0 0] 26)) (w.heap.size + 1) 26 #[.int .u64 n, .slice none 0 0, .slice none 0 0] := Blk.newAt (by simp)
  exact bodyPost_ret (v := .agg #[.int .i64 k, .slice none 0 0, .slice (some ⟨w.heap.size + 1, 0, none⟩) 1 1]) (by simp [results, Tryz.results12, go_sem]) rfl ⟨[.int .i64 k, .slice none 0 0, .slice (some ⟨w.heap.size + 1, 0, none⟩) 1 1], rfl, rfl, ⟨_, _, rfl, RowM.nil _ _ _ _, rowM_one (cs := [.int .u64 n, .slice none 0 0, .slice none 0 0]) B rfl (val_num _ _ _ n hn), hk⟩, by exact blBy⟩
theorem MsgE.any {w : World} {Z : Nat → Prop} {d : Nat} {cs : List Value} {m : CM} (h : MsgE w Z d cs m) : MsgE w AnyZ d cs m := MsgE.go (Keep.refl (fun _ => True) w) (fun _ _ => trivial) (fun _ _ => trivial) d _ _ h
theorem msgW (w : World) (a : Option Addr) (n c : Nat) : Calls Tryz.prog 11 #[.slice a n c] w fun e w' => e = .returned (.agg #[.slice a n c, .slice none 0 0]) ∧ Below w.heap.size w w' := by
  go_enter Tryz.func11, Tryz.ntmps11
  go_wp2
  exact bodyPost_ret (v := .agg #[.slice a n c, .slice none 0 0]) (by simp [results, Tryz.results11, go_sem]) rfl ⟨rfl, by exact blBy⟩
theorem typedLW (w : World) (mx : Int) (hm0 : w.cell? ⟨0, 0, none⟩ = some (.int .i64 mx)) (Z : Nat → Prop) (d : Nat) (cs : List Value) (m : CM) (hm : MsgE w Z d cs m) (is want : Bool) (hi : ∀ h, keptB (simL h) d (simM h) m = is) : Calls Tryz.prog 10 #[.agg cs.toArray, .bool want] w fun e w' => e = .returned (.bool (is == want)) ∧ Below w.heap.size w w' := by
  have HT : Hid (∀ (W : World) (h : Nat) (a : Option Addr), Below w.heap.size w W → TbR W (.slice a (simL h).length 2) (simL h) → Calls Tryz.prog 19 #[.agg #[.slice a (simL h).length 2], .int .i64 1, .agg cs.toArray] W fun e w' => e = .returned (.tuple #[.bool is, .int .i64 0]) ∧ Below W.heap.size W w') := hid fun W h a hW hT => by
    have := typedT W (simL h) a 2 hT (simOk h) mx (cell_below hm0 hW) 1 (by show 1 < 2; decide) (simGood h) rfl Z d cs m (hm.kept hW)
    rw [show keptB (simL h) d ((simL h)[1]'(by show 1 < 2; decide)) m = is from hi h] at this
    exact this
  obtain ⟨fa, fc, ua, uc, rfl, -⟩ := msg_openD hm
  clear hm hm0 hi
  go_enter Tryz.func10, Tryz.ntmps10
  go_upto_region 1 with fail
  have Bm : Blk (w.alloc (.cells #[.slice fa m.fs.length fc, .slice ua m.us.length uc] 35)) w.heap.size 35 #[.slice fa m.fs.length fc, .slice ua m.us.length uc] := Blk.new _ _ _
  have HB : Hid (Below w.heap.size w (w.alloc (.cells #[.slice fa m.fs.length fc, .slice ua m.us.length uc] 35))) := hid (by exact blBy)
  generalize (w.alloc (.cells #[.slice fa m.fs.length fc, .slice ua m.us.length uc] 35)) = W at *
  have f0 : W.cell? ⟨w.heap.size, 0, none⟩ = some (.slice fa m.fs.length fc) := Bm.cell 0 _ rfl
  have f1 : W.cell? ⟨w.heap.size, 1, none⟩ = some (.slice ua m.us.length uc) := Bm.cell 1 _ rfl
  clear Bm
  go_region_held3 (fun W => W.cell? ⟨w.heap.size, 0, none⟩ = some (.slice fa m.fs.length fc) ∧ W.cell? ⟨w.heap.size, 1, none⟩ = some (.slice ua m.us.length uc)) (exact ⟨f0, f1⟩) (first | (go_at_call 16; refine (simpleW _).mono ?_; rintro e w2 ⟨rfl, ht, hbx⟩; replace f0 := cell_below f0 (below_trans (by first | exact Below.refl _ _ | exact below_drew1 _ | exact below_drewN _ _) hbx); replace f1 := cell_below f1 (below_trans (by first | exact Below.refl _ _ | exact below_drew1 _ | exact below_drewN _ _) hbx); replace HB := hid (below_trans HB.out (below_trans (by first | exact Below.refl _ _ | exact below_drew1 _ | exact below_drewN _ _) hbx)); have HT1 := hid ht; clear ht hbx) | (go_at_call 19; refine (HT.out _ _ _ (by have := HB.out; exact blBy) (HT1.out.kept (by first | exact Below.refl _ _ | exact below_drew1 _ | exact below_drewN _ _))).mono ?_; rintro e w3 ⟨rfl, hbx⟩; replace f0 := cell_below f0 (below_trans (by first | exact Below.refl _ _ | exact below_drew1 _ | exact below_drewN _ _) hbx); replace f1 := cell_below f1 (below_trans (by first | exact Below.refl _ _ | exact below_drew1 _ | exact below_drewN _ _) hbx); replace HB := hid (below_trans HB.out (below_trans (by first | exact Below.refl _ _ | exact below_drew1 _ | exact below_drewN _ _) hbx)); clear hbx))
  all_goals go_wp2
  all_goals (go_ret; exact ⟨ret_bool (by cases is <;> cases want <;> rfl), by have := HB.out; exact blBy⟩)
end Go.Proofs.YtgephggcgopfgaaGreatDoor
namespace Go.Proofs.YtgephggcgopfgaaGreatDoor
open Go.RowKit
set_option maxRecDepth 1000000
set_option linter.unusedVariables false
set_option linter.unusedSimpArgs false
set_option maxHeartbeats 1000000
theorem CE.ext4 {x y : CE} (h1 : x.num = y.num) (h2 : x.kind = y.kind) (h3 : x.n = y.n) (h4 : x.b = y.b) : x = y := by
  cases x; cases y; simp_all
theorem CV.ext3 {x y : CV CM} (h1 : x.n = y.n) (h2 : x.b = y.b) (h3 : x.ms = y.ms) : x = y := by
  cases x; cases y; simp_all
theorem CF.ext3 {x y : CF CM} (h1 : x.num = y.num) (h2 : x.ks = y.ks) (h3 : x.vs = y.vs) : x = y := by
  cases x; cases y; simp_all
def EqAt (d : Nat) : Prop := ∀ (w : World) (Z Z2 : Nat → Prop) (cs ds : List Value) (m m' : CM), MsgE w Z d cs m → MsgE w Z2 d ds m' → Calls Tryz.prog 26 #[.agg cs.toArray, .agg ds.toArray] w (EqR w (m = m'))
theorem sameEntryT (w : World) (Z Z2 : Nat → Prop) (cs ds : List Value) (x y : CE) (h1 : EntE w Z cs x) (h2 : EntE w Z2 ds y) : Calls Tryz.prog 58 #[.agg cs.toArray, .agg ds.toArray] w (EqR w (x = y)) := by
  obtain ⟨ka1, kc1, rfl, g1, -⟩ := ent_open h1
  obtain ⟨ka2, kc2, rfl, g2, -⟩ := ent_open h2
  have G1 := hid g1
  have G2 := hid g2
  clear g1 g2 h1 h2
  go_enter Tryz.func58, Tryz.ntmps58
  by_cases e1 : x.num = y.num
  case neg =>
    have kq : (x.num == y.num) = false := by simpa using e1
    have HX := hid e1
    clear e1
    go_wp2
    go_ret
    exact EqR.no (fun e => HX.out (by rw [e])) (by exact blBy)
  have kqe1 : (x.num == y.num) = true := by simpa using e1
  have He1 := hid e1
  clear e1
  by_cases e2 : x.kind = y.kind
  case neg =>
    have kq : (x.kind == y.kind) = false := by simpa using e2
    have HX := hid e2
    clear e2
    go_wp2
    go_ret
    exact EqR.no (fun e => HX.out (by rw [e])) (by exact blBy)
  have kqe2 : (x.kind == y.kind) = true := by simpa using e2
  have He2 := hid e2
  clear e2
  by_cases e3 : x.n = y.n
  case neg =>
    have kq : (x.n == y.n) = false := by simpa using e3
    have HX := hid e3
    clear e3
    go_wp2
    go_ret
    exact EqR.no (fun e => HX.out (by rw [e])) (by exact blBy)
  have kqe3 : (x.n == y.n) = true := by simpa using e3
  have He3 := hid e3
  clear e3
  go_wp2_with fail
  refine (bytesEqT _ Z Z2 ka1 ka2 kc1 kc2 x.b y.b (G1.out.kept (by exact blBy)) (G2.out.kept (by exact blBy))).mono ?_
  rintro e w1 ⟨r1, rfl, hr, hb⟩
  have HR := hid hr
  clear hr
  have Bx : Blk w1 w.heap.size 40 #[.int .i64 x.num, .int .i64 x.kind, .int .u64 x.n, .slice ka1 x.b.length kc1] := ((Blk.new _ _ _).kept (below_alloc _)).kept hb
  have By : Blk w1 (w.heap.size + 1) 40 #[.int .i64 y.num, .int .i64 y.kind, .int .u64 y.n, .slice ka2 y.b.length kc2] := (Blk.newAt (by simp)).kept hb
  have hbz : Hid (Below w.heap.size w w1) := hid (bl_then (by exact blBy) hb)
  clear hb
  cases r1 with
  | false =>
    have HX : Hid (¬ x.b = y.b) := hid (fun e => (by have := HR.out.2 e; cases this))
    clear HR
    go_wp2
    go_ret
    exact EqR.no (fun e => HX.out (by rw [e])) hbz.out
  | true =>
  have e4 : Hid (x.b = y.b) := hid (HR.out.1 rfl)
  clear HR
  go_wp2
  go_ret
  exact EqR.yes (CE.ext4 He1.out He2.out He3.out e4.out) hbz.out
theorem sameValT (d : Nat) (HE : EqAt d) (w : World) (Z Z2 : Nat → Prop) (cs ds : List Value) (x y : CV CM) (h1 : ValE w Z (MsgE w Z d) cs x) (h2 : ValE w Z2 (MsgE w Z2 d) ds y) : Calls Tryz.prog 106 #[.agg cs.toArray, .agg ds.toArray] w (EqR w (x = y)) := by
  obtain ⟨ka1, kc1, va1, vc1, rfl, g1, m1, -⟩ := val_open h1
  obtain ⟨ka2, kc2, va2, vc2, rfl, g2, m2, -⟩ := val_open h2
  have G1 := hid g1
  have G2 := hid g2
  have M1 := hid m1
  have M2 := hid m2
  replace HE := hid HE
  clear g1 g2 h1 h2 m1 m2
  go_enter Tryz.func106, Tryz.ntmps106
  by_cases e1 : x.n = y.n
  case neg =>
    have kq : (x.n == y.n) = false := by simpa using e1
    have HX := hid e1
    clear e1
    go_wp2
    go_ret
    exact EqR.no (fun e => HX.out (by rw [e])) (by exact blBy)
  have kqe1 : (x.n == y.n) = true := by simpa using e1
  have He1 := hid e1
  clear e1
  go_wp2_with fail
  refine (bytesEqT _ Z Z2 ka1 ka2 kc1 kc2 x.b y.b (G1.out.kept (by exact blBy)) (G2.out.kept (by exact blBy))).mono ?_
  rintro e w1 ⟨r1, rfl, hr, hb⟩
  have HR := hid hr
  clear hr
  have Bx : Blk w1 w.heap.size 26 #[.int .u64 x.n, .slice ka1 x.b.length kc1, .slice va1 x.ms.length vc1] := ((Blk.new _ _ _).kept (below_alloc _)).kept hb
  have By : Blk w1 (w.heap.size + 1) 26 #[.int .u64 y.n, .slice ka2 y.b.length kc2, .slice va2 y.ms.length vc2] := (Blk.newAt (by simp)).kept hb
  have hbz : Hid (Below w.heap.size w w1) := hid (bl_then (by exact blBy) hb)
  clear hb
  cases r1 with
  | false =>
    have HX : Hid (¬ x.b = y.b) := hid (fun e => (by have := HR.out.2 e; cases this))
    clear HR
    go_wp2
    go_ret
    exact EqR.no (fun e => HX.out (by rw [e])) hbz.out
  | true =>
  have e2 : Hid (x.b = y.b) := hid (HR.out.1 rfl)
  clear HR
  have xx := Bx.cellF
  have zx := Bx.lt
  have xy := By.cellF
  have zy := By.lt
  go_wp2_with fail
  refine (eqfM _ Z Z2 d x.ms y.ms va1 va2 vc1 vc2 (M1.out.kept hbz.out) (M2.out.kept hbz.out) (fun W hW cs ds x y => HE.out W Z Z2 cs ds x y)).mono ?_
  rintro e w2 ⟨r2, rfl, hr, hb⟩
  have HR := hid hr
  clear hr
  replace Bx := Bx.kept hb
  replace By := By.kept hb
  replace hbz : Hid (Below w.heap.size w w2) := hid (bl_then (by have := hbz.out; exact blBy) hb)
  clear xx zx xy zy
  clear hb
  cases r2 with
  | false =>
    have HX : Hid (¬ x.ms = y.ms) := hid (fun e => (by have := HR.out.2 e; cases this))
    clear HR
    go_wp2
    go_ret
    exact EqR.no (fun e => HX.out (by rw [e])) hbz.out
  | true =>
  have e3 : Hid (x.ms = y.ms) := hid (HR.out.1 rfl)
  clear HR
  go_wp2
  go_ret
  exact EqR.yes (CV.ext3 He1.out e2.out e3.out) hbz.out
theorem sameFieldT (d : Nat) (HE : EqAt d) (w : World) (Z Z2 : Nat → Prop) (cs ds : List Value) (x y : CF CM) (h1 : FldE w Z (MsgE w Z d) cs x) (h2 : FldE w Z2 (MsgE w Z2 d) ds y) : Calls Tryz.prog 56 #[.agg cs.toArray, .agg ds.toArray] w (EqR w (x = y)) := by
  obtain ⟨ka1, kc1, va1, vc1, rfl, g1, m1, -⟩ := fld_open h1
  obtain ⟨ka2, kc2, va2, vc2, rfl, g2, m2, -⟩ := fld_open h2
  have G1 := hid g1
  have G2 := hid g2
  have M1 := hid m1
  have M2 := hid m2
  replace HE := hid HE
  clear g1 g2 h1 h2 m1 m2
  go_enter Tryz.func56, Tryz.ntmps56
  by_cases e1 : x.num = y.num
  case neg =>
    have kq : (x.num == y.num) = false := by simpa using e1
    have HX := hid e1
    clear e1
    go_wp2
    go_ret
    exact EqR.no (fun e => HX.out (by rw [e])) (by exact blBy)
  have kqe1 : (x.num == y.num) = true := by simpa using e1
  have He1 := hid e1
  clear e1
  go_wp2_with fail
  refine (eqfV _ Z Z2 d x.ks y.ks ka1 ka2 kc1 kc2 (G1.out.kept (by exact blBy)) (G2.out.kept (by exact blBy)) (fun W hW cs ds x y => sameValT d HE.out W Z Z2 cs ds x y)).mono ?_
  rintro e w1 ⟨r1, rfl, hr, hb⟩
  have HR := hid hr
  clear hr
  have Bx : Blk w1 w.heap.size 29 #[.int .i64 x.num, .slice ka1 x.ks.length kc1, .slice va1 x.vs.length vc1] := ((Blk.new _ _ _).kept (below_alloc _)).kept hb
  have By : Blk w1 (w.heap.size + 1) 29 #[.int .i64 y.num, .slice ka2 y.ks.length kc2, .slice va2 y.vs.length vc2] := (Blk.newAt (by simp)).kept hb
  have hbz : Hid (Below w.heap.size w w1) := hid (bl_then (by exact blBy) hb)
  clear hb
  cases r1 with
  | false =>
    have HX : Hid (¬ x.ks = y.ks) := hid (fun e => (by have := HR.out.2 e; cases this))
    clear HR
    go_wp2
    go_ret
    exact EqR.no (fun e => HX.out (by rw [e])) hbz.out
  | true =>
  have e2 : Hid (x.ks = y.ks) := hid (HR.out.1 rfl)
  clear HR
  have xx := Bx.cellF
  have zx := Bx.lt
  have xy := By.cellF
  have zy := By.lt
  go_wp2_with fail
  refine (eqfV _ Z Z2 d x.vs y.vs va1 va2 vc1 vc2 (M1.out.kept hbz.out) (M2.out.kept hbz.out) (fun W hW cs ds x y => sameValT d HE.out W Z Z2 cs ds x y)).mono ?_
  rintro e w2 ⟨r2, rfl, hr, hb⟩
  have HR := hid hr
  clear hr
  replace Bx := Bx.kept hb
  replace By := By.kept hb
  replace hbz : Hid (Below w.heap.size w w2) := hid (bl_then (by have := hbz.out; exact blBy) hb)
  clear xx zx xy zy
  clear hb
  cases r2 with
  | false =>
    have HX : Hid (¬ x.vs = y.vs) := hid (fun e => (by have := HR.out.2 e; cases this))
    clear HR
    go_wp2
    go_ret
    exact EqR.no (fun e => HX.out (by rw [e])) hbz.out
  | true =>
  have e3 : Hid (x.vs = y.vs) := hid (HR.out.1 rfl)
  clear HR
  go_wp2
  go_ret
  exact EqR.yes (CF.ext3 He1.out e2.out e3.out) hbz.out
theorem equalT : ∀ d, EqAt d
  | 0 => fun _ _ _ _ _ _ _ h => h.elim
  | d + 1 => fun w Z Z2 cs ds x y h1 h2 => by
    have HE := hid (equalT d)
    obtain ⟨ka1, kc1, va1, vc1, rfl, g1, m1, -⟩ := msg_open h1
    obtain ⟨ka2, kc2, va2, vc2, rfl, g2, m2, -⟩ := msg_open h2
    have G1 := hid g1
    have G2 := hid g2
    have M1 := hid m1
    have M2 := hid m2
    clear g1 g2 h1 h2 m1 m2
    go_enter Tryz.func26, Tryz.ntmps26
    go_wp2_with fail
    refine (eqfF _ Z Z2 d x.fs y.fs ka1 ka2 kc1 kc2 (G1.out.kept (by exact blBy)) (G2.out.kept (by exact blBy)) (fun W hW cs ds x y => sameFieldT d HE.out W Z Z2 cs ds x y)).mono ?_
    rintro e w1 ⟨r1, rfl, hr, hb⟩
    have HR := hid hr
    clear hr
    have Bx : Blk w1 w.heap.size 35 #[.slice ka1 x.fs.length kc1, .slice va1 x.us.length vc1] := ((Blk.new _ _ _).kept (below_alloc _)).kept hb
    have By : Blk w1 (w.heap.size + 1) 35 #[.slice ka2 y.fs.length kc2, .slice va2 y.us.length vc2] := (Blk.newAt (by simp)).kept hb
    have hbz : Hid (Below w.heap.size w w1) := hid (bl_then (by exact blBy) hb)
    clear hb
    cases r1 with
    | false =>
      have HX : Hid (¬ x.fs = y.fs) := hid (fun e => (by have := HR.out.2 e; cases this))
      clear HR
      go_wp2
      go_ret
      exact EqR.no (fun e => HX.out (by rw [e])) hbz.out
    | true =>
    have e2 : Hid (x.fs = y.fs) := hid (HR.out.1 rfl)
    clear HR
    have xx := Bx.cellF
    have zx := Bx.lt
    have xy := By.cellF
    have zy := By.lt
    go_wp2_with fail
    refine (eqfE _ Z Z2 x.us y.us va1 va2 vc1 vc2 (M1.out.kept hbz.out) (M2.out.kept hbz.out) (fun W hW cs ds x y => sameEntryT W Z Z2 cs ds x y)).mono ?_
    rintro e w2 ⟨r2, rfl, hr, hb⟩
    have HR := hid hr
    clear hr
    replace Bx := Bx.kept hb
    replace By := By.kept hb
    replace hbz : Hid (Below w.heap.size w w2) := hid (bl_then (by have := hbz.out; exact blBy) hb)
    clear xx zx xy zy
    clear hb
    cases r2 with
    | false =>
      have HX : Hid (¬ x.us = y.us) := hid (fun e => (by have := HR.out.2 e; cases this))
      clear HR
      go_wp2
      go_ret
      exact EqR.no (fun e => HX.out (by rw [e])) hbz.out
    | true =>
    have e3 : Hid (x.us = y.us) := hid (HR.out.1 rfl)
    clear HR
    go_wp2
    go_ret
    exact EqR.yes (CM.ext e2.out e3.out) hbz.out
end Go.Proofs.YtgephggcgopfgaaGreatDoor
