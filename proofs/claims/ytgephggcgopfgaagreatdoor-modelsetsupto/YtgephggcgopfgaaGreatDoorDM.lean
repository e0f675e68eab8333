/-
  with: a message with a field at its place.
-/
import Derived.Test.YtgephggcgopfgaaGreatDoorCEB
import Derived.Test.YtgephggcgopfgaaGreatDoorCCJ
namespace Go.Proofs.YtgephggcgopfgaaGreatDoor
open Go.RowKit
set_option maxRecDepth 1000000
set_option linter.unusedVariables false
set_option linter.unusedSimpArgs false
set_option maxHeartbeats 1000000
theorem flat_take {k : Nat} : ∀ (ts : List (Tup k)) (i : Nat), (ts.flatMap Subtype.val).take (i * k) = (ts.take i).flatMap Subtype.val
  | [], i => by simp
  | t :: r, 0 => by simp
  | t :: r, i + 1 => by
    rw [List.flatMap_cons, List.take_succ_cons, List.flatMap_cons, ← flat_take r i]
    rw [show (i + 1) * k = t.1.length + i * k by rw [t.2, Nat.add_mul]; omega, List.take_length_add_append]
theorem flat_drop {k : Nat} : ∀ (ts : List (Tup k)) (i : Nat), (ts.flatMap Subtype.val).drop (i * k) = (ts.drop i).flatMap Subtype.val
  | [], i => by simp
  | t :: r, 0 => by simp
  | t :: r, i + 1 => by
    rw [List.flatMap_cons, List.drop_succ_cons, ← flat_drop r i]
    rw [show (i + 1) * k = t.1.length + i * k by rw [t.2, Nat.add_mul]; omega, List.drop_length_add_append]
theorem OwnA.ins {α : Type} {k : Nat} {E : World → (Nat → Prop) → List Value → α → Prop} (F : Fam k E) {t : TypeId} {base : Nat} {Y : Nat → Prop} {v v' : Value} {xs : List α} {w w' : World} {ts : List (Tup k)} (h2 : ts.length = xs.length) (h3 : ∀ (i : Nat) (t : Tup k) (x : α), ts[i]? = some t → xs[i]? = some x → E w (ZofA w Y v) t.1 x) {cs : List Value} {x : α} (hx : E w (ZofA w Y v) cs x) {i : Nat} (hi : i ≤ xs.length)
    (ho : w'.ownsRow base t k v' (xs.length + 1) ((ts.flatMap Subtype.val).take (i * k) ++ cs ++ (ts.flatMap Subtype.val).drop (i * k))) (g : Grow w w' v v') : OwnA w' base Y t k E v' (xs.take i ++ x :: xs.drop i) := by
  have hcs := F.len hx
  refine ⟨ts.take i ++ ⟨cs, hcs⟩ :: ts.drop i, ?_, by simp [h2], ?_⟩
  · rw [flat_take, flat_drop] at ho
    have e1 : (xs.take i ++ x :: xs.drop i).length = xs.length + 1 := by simp; omega
    have e2 : (ts.take i ++ (⟨cs, hcs⟩ : Tup k) :: ts.drop i).flatMap Subtype.val = (ts.take i).flatMap Subtype.val ++ cs ++ (ts.drop i).flatMap Subtype.val := by
      rw [List.flatMap_append, List.flatMap_cons, List.append_assoc]
    rw [e1, e2]
    exact ho
  · have hz : ∀ b, ZofA w Y v b → ZofA w' Y v' b := fun b hzb => by
      refine ⟨hzb.1, Nat.lt_of_lt_of_le hzb.2.1 g.size, ?_⟩
      intro e
      rcases g.own with q | q
      · rw [q] at e; exact hzb.2.2 e
      · have := q b e; have := hzb.2.1; omega
    have hk : Keep (fun b => v.ownBlock ≠ some b) w w' := Keep.ofGrow g (fun _ hk => hk)
    intro j u y hu hy
    by_cases hj : j < i
    · rw [List.getElem?_append_left (by rw [List.length_take]; omega), List.getElem?_take_of_lt hj] at hu
      rw [List.getElem?_append_left (by rw [List.length_take]; omega), List.getElem?_take_of_lt hj] at hy
      exact F.go (h3 j u y hu hy) hk (fun b hz => hz.2.2) hz
    · rw [List.getElem?_append_right (by rw [List.length_take]; omega), List.length_take, show min i ts.length = i by omega] at hu
      rw [List.getElem?_append_right (by rw [List.length_take]; omega), List.length_take, show min i xs.length = i by omega] at hy
      by_cases hji : j = i
      · subst hji
        simp at hu hy
        subst hu hy
        exact F.go hx hk (fun b hz => hz.2.2) hz
      · obtain ⟨n, hn⟩ : ∃ n, j - i = n + 1 := ⟨j - i - 1, by omega⟩
        rw [hn, List.getElem?_cons_succ, List.getElem?_drop] at hu hy
        exact F.go (h3 _ u y hu hy) hk (fun b hz => hz.2.2) hz
theorem fnd_plc (n : Int) : ∀ (l : List (CF CM)) (i : Nat), (fnd (laterB n) l i < 0 ∧ plcM n l = l.length) ∨ (fnd (laterB n) l i = ((i + plcM n l : Nat) : Int) ∧ plcM n l < l.length)
  | [], i => .inl ⟨by show (-1 : Int) < 0; decide, rfl⟩
  | o :: r, i => by
    unfold fnd plcM
    rw [List.takeWhile_cons]
    cases hq : laterB n o with
    | true => exact .inr ⟨by simp, by simp⟩
    | false =>
      have := fnd_plc n r (i + 1)
      unfold plcM at this
      simp only [Bool.not_false, if_true, List.length_cons, Bool.false_eq_true, if_false]
      rcases this with ⟨h1, h2⟩ | ⟨h1, h2⟩
      · exact .inl ⟨h1, by omega⟩
      · exact .inr ⟨by rw [h1]; congr 1; omega, by omega⟩
theorem rise_len : ∀ (ns L : List Int), ns.Pairwise (· < ·) → (∀ n ∈ ns, n ∈ L) → ns.length ≤ L.length
  | [], L, _, _ => Nat.zero_le _
  | n :: r, L, hp, hm => by
    have h1 := rise_len r (L.filter (· != n)) (List.pairwise_cons.1 hp).2 (fun k hk => by
      rw [List.mem_filter]
      refine ⟨hm k (List.mem_cons_of_mem _ hk), ?_⟩
      have := (List.pairwise_cons.1 hp).1 k hk
      simp
      omega)
    have h2 : (L.filter (· != n)).length < L.length := by
      have hn := hm n List.mem_cons_self
      refine List.length_filter_lt_length_iff_exists.2 ⟨n, hn, by simp⟩
    simp only [List.length_cons]
    omega
theorem kept_len {l : List TV} {d : Nat} {x : TV} {m : CM} (h : keptB l (d + 1) x m = true) : m.fs.length ≤ x.t.fs.length := by
  have h1 := (kept_all h).1
  unfold holdB at h1
  simp only [Bool.and_eq_true, List.all_eq_true] at h1
  obtain ⟨hr, ht, -⟩ := h1
  have := rise_len (m.fs.map CF.num) (x.t.fs.map FT.num) (by rw [List.pairwise_map]; exact rise_pairs hr) (fun n hn => by
    obtain ⟨f, hf, rfl⟩ := List.mem_map.1 hn
    have h2 := ht f hf
    unfold typB8 at h2
    rw [Bool.and_eq_true] at h2
    have h3 := h2.1
    unfold hasF at h3
    cases hq : x.t.fs.find? (fun o => o.num == f.num) with
    | none => rw [hq] at h3; cases h3
    | some o =>
      refine List.mem_map.2 ⟨o, List.mem_of_find?_eq_some hq, ?_⟩
      simpa using List.find?_some hq)
  simpa using this
theorem insertA (w : World) (base : Nat) (Z : Nat → Prop) (d : Nat) (v : Value) (left : List (CF CM)) (h : OwnA w base Z 29 3 (FmF d) v left) (i : Nat) (hi : i ≤ left.length) (vb : Nat) (hvb : v.ownBlock ≠ some vb) (c0 c1 c2 : Value) (f : CF CM) (hv : Blk w vb 29 #[c0, c1, c2]) (hf : FmF d w (ZofA w Z v) [c0, c1, c2] f) (hb : base ≤ w.heap.size) (hn : left.length ≤ 4000000) : Calls Tryz.prog 115 #[v, .int .i64 (i : Int), .slice (some ⟨vb, 0, none⟩) 1 1] w fun e w' => ∃ a c, e = .returned (.slice a (left.length + 1) c) ∧ OwnA w' base Z 29 3 (FmF d) (.slice a (left.length + 1) c) (left.take i ++ f :: left.drop i) ∧ Below base w w' := by
  obtain ⟨ts, h1, h2, h3⟩ := h
  have h1f : ∀ u ∈ ts.flatMap Subtype.val, u.oneCell' = true := by
    intro u hu
    obtain ⟨t, ht, hut⟩ := List.mem_flatMap.1 hu
    obtain ⟨j, hj, rfl⟩ := List.mem_iff_getElem.1 ht
    exact (famF d).one (h3 j _ _ (List.getElem?_eq_getElem hj) (List.getElem?_eq_getElem (by omega))) u hut
  refine (insertT w base v left.length (ts.flatMap Subtype.val) h1 i hi vb hvb c0 c1 c2 hv ((famF d).one hf) h1f hb hn).mono ?_
  rintro e w' ⟨a, c, rfl, ho, hg⟩
  exact ⟨a, c, rfl, OwnA.ins (famF d) h2 h3 hf hi ho hg, hg.below hb (fun k hk => (own_type h1 hk).1)⟩
theorem EnsR.weakE {w : World} {Z Z' : Nat → Prop} {v : Value} {xs : List CE} (h : EnsR w Z v xs) (hz : ∀ b, Z b → Z' b) : EnsR w Z' v xs := (RowM.weak h hz).imp (fun _ _ _ he => EntE.weak he hz)
theorem withT0 (w : World) (x : TV) (hx : TyR w x) (hr : Rise x.t.fs) (hl : x.t.fs.length ≤ 128) (Z : Nat → Prop) (hZ : ∀ b, Z b → b < w.heap.size) (d : Nat) (cm cf : List Value) (m : CM) (f : CF CM) (hm : MsgE w Z (d + 1) cm m) (hf : FldE w Z (MsgE w Z d) cf f) (hml : m.fs.length < 4000000) : Calls Tryz.prog 69 #[.agg (cTV x).toArray, .agg cm.toArray, .agg cf.toArray] w fun e w' => ∃ ds : List Value, e = .returned (.agg ds.toArray) ∧ MsgE w' (fun b => Z b ∨ w.heap.size ≤ b) (d + 1) ds (withM x.t.fs m f) ∧ Below w.heap.size w w' := by
  obtain ⟨ta1, tc1, ta2, tc2, ta3, tc3, ta4, tc4, e1, e2, e3, e4⟩ := shT_of hx
  have ecx : cTV x = [.string (strOfNums x.t.name), .bool x.t.enum, .slice ta1 x.t.fs.length tc1, .slice ta2 x.t.os.length tc2, .slice ta3 x.t.ss.length tc3, .slice ta4 x.t.rs.length tc4] := by unfold cTV; rw [e1, e2, e3, e4]
  have HFO := hid fun W (hW : Below w.heap.size w W) => findT x.t.fs f.num W ta1 tc1 (by rw [← e1]; exact (hx.kept hW).f) hr hl
  have HX := hid hx
  have HR := hid hr
  have HL := hid hl
  have HM := hid hm
  have HF := hid hf
  obtain ⟨ka, kc, va, vc, rfl, -, -, -, -, hfn⟩ := fld_open hf
  obtain ⟨fa, fc, ua, uc, rfl, hfl, hul, l1, l2⟩ := msg_open hm
  have HFL := hid hfl
  have HUL := hid hul
  have HEC := hid ecx
  rw [ecx]
  clear hx hm hf hr hl e1 e2 e3 e4 hfl hul ecx
  have HWM : Hid ((withM x.t.fs m f).fs = insM f (m.fs.filter (stayB x.t.fs f.num))) := hid rfl
  have HWU : Hid ((withM x.t.fs m f).us = m.us) := hid rfl
  generalize withM x.t.fs m f = wm at *
  go_enter Tryz.func69, Tryz.ntmps69
  go_wp2_with fail
  refine (HFO.out _ (by exact blBy)).mono ?_
  rintro e w1 ⟨rfl, hb1⟩
  unfold tFT
  have Bx : Hid (Blk w1 w.heap.size 71 #[.string (strOfNums x.t.name), .bool x.t.enum, .slice ta1 x.t.fs.length tc1, .slice ta2 x.t.os.length tc2, .slice ta3 x.t.ss.length tc3, .slice ta4 x.t.rs.length tc4]) := hid (((((Blk.new _ _ _).kept (below_alloc _)).kept (below_alloc _)).kept (below_alloc _)).kept hb1)
  have Bm : Hid (Blk w1 (w.heap.size + 1) 35 #[.slice fa m.fs.length fc, .slice ua m.us.length uc]) := hid ((((Blk.newAt (by simp)).kept (below_alloc _)).kept (below_alloc _)).kept hb1)
  have Bf : Hid (Blk w1 (w.heap.size + 1 + 1) 29 #[.int .i64 f.num, .slice ka f.ks.length kc, .slice va f.vs.length vc]) := hid (((Blk.newAt (by simp)).kept (below_alloc _)).kept hb1)
  have Br : Hid (Blk w1 (w.heap.size + 1 + 1 + 1) 35 #[.slice none 0 0, .slice none 0 0]) := hid ((Blk.newAt (by simp)).kept hb1)
  have HB : Hid (Below w.heap.size w w1) := hid (bl_then (by exact blBy) hb1)
  have hs1 : w.heap.size + 1 + 1 + 1 + 1 ≤ w1.heap.size := by have := hb1.size; simpa using this
  have xm := Bm.out.cellF
  have zm := Bm.out.lt
  clear hb1
  go_wp2_with fail
  have Bo : Hid (Blk (w1.alloc (.cells #[.string (strOfNums (ownF x.t.fs f.num).name), .int .i64 (ownF x.t.fs f.num).num, .int .i64 (ownF x.t.fs f.num).kind, .int .i64 (ownF x.t.fs f.num).ref, .int .i64 (ownF x.t.fs f.num).lab, .int .i64 (ownF x.t.fs f.num).one, .int .i64 (ownF x.t.fs f.num).key] 82)) w1.heap.size 82 #[.string (strOfNums (ownF x.t.fs f.num).name), .int .i64 (ownF x.t.fs f.num).num, .int .i64 (ownF x.t.fs f.num).kind, .int .i64 (ownF x.t.fs f.num).ref, .int .i64 (ownF x.t.fs f.num).lab, .int .i64 (ownF x.t.fs f.num).one, .int .i64 (ownF x.t.fs f.num).key]) := hid (Blk.new _ _ _)
  have hb1 : Below w1.heap.size w1 (w1.alloc (.cells #[.string (strOfNums (ownF x.t.fs f.num).name), .int .i64 (ownF x.t.fs f.num).num, .int .i64 (ownF x.t.fs f.num).kind, .int .i64 (ownF x.t.fs f.num).ref, .int .i64 (ownF x.t.fs f.num).lab, .int .i64 (ownF x.t.fs f.num).one, .int .i64 (ownF x.t.fs f.num).key] 82)) := below_alloc _
  generalize w1.alloc (.cells #[.string (strOfNums (ownF x.t.fs f.num).name), .int .i64 (ownF x.t.fs f.num).num, .int .i64 (ownF x.t.fs f.num).kind, .int .i64 (ownF x.t.fs f.num).ref, .int .i64 (ownF x.t.fs f.num).lab, .int .i64 (ownF x.t.fs f.num).one, .int .i64 (ownF x.t.fs f.num).key] 82) = w2 at *
  replace Bx := hid (Bx.out.kept hb1)
  replace Bm := hid (Bm.out.kept hb1)
  replace Bf := hid (Bf.out.kept hb1)
  replace Br := hid (Br.out.kept hb1)
  replace HB := hid (below_trans HB.out hb1)
  have hs2 : w1.heap.size + 1 ≤ w2.heap.size := Bo.out.lt
  clear xm zm hb1
  refine (chosenFO w2 Z d m.fs fa fc (HFL.out.kept HB.out) 113 #[.pointer (some ⟨w.heap.size, 0, none⟩), .pointer (some ⟨w1.heap.size, 0, none⟩), .pointer (some ⟨w.heap.size + 1 + 1, 0, none⟩)] cfStay (stayB x.t.fs f.num) (fun W hW cs o _ ho => stayFn W x (HX.out.kept (below_trans HB.out hW)) HR.out HL.out Z d cs o ho _ _ _ f.num _ _ (by rw [HEC.out]; exact Bx.out.kept hW) (Bo.out.kept hW) (Bf.out.kept hW))).mono ?_
  rintro e w3 ⟨la, lc, rfl, hown, hb2⟩
  have HO := hid hown
  replace Bm := hid (Bm.out.kept hb2)
  replace Bf := hid (Bf.out.kept hb2)
  replace Br := hid (Br.out.kept hb2)
  replace HB := hid (below_trans HB.out hb2)
  have hs3 : w2.heap.size ≤ w3.heap.size := hb2.size
  have HLL : Hid ((m.fs.filter (stayB x.t.fs f.num)).length ≤ m.fs.length) := hid (List.length_filter_le _ _)
  generalize m.fs.filter (stayB x.t.fs f.num) = left at *
  clear hown hb2 Bo Bx HX HR HL HEC HFO
  have HRW := hid (HO.out.row (famF d) (by have := HLL.out; omega))
  go_wp2_with fail
  refine (idxFld w3 _ d left la lc HRW.out 114 #[.pointer (some ⟨w.heap.size + 1 + 1, 0, none⟩)] cfLater (laterB f.num) (fun W hW cs o _ ho => laterFn W _ d cs o ho _ f.num _ _ (Bf.out.kept hW))).mono ?_
  rintro e w4 ⟨rfl, hb3⟩
  replace HO := hid (HO.out.kept (famF d) hb3)
  replace Bm := hid (Bm.out.kept hb3)
  replace Bf := hid (Bf.out.kept hb3)
  replace Br := hid (Br.out.kept hb3)
  replace HB := hid (below_trans HB.out hb3)
  have hs4 : w3.heap.size ≤ w4.heap.size := hb3.size
  clear hb3 HRW
  have HIN : Hid (∀ (W : World), Below w4.heap.size w4 W → Blk W w4.heap.size 29 #[.int .i64 f.num, .slice ka f.ks.length kc, .slice va f.vs.length vc] → Calls Tryz.prog 115 #[.slice la left.length lc, .int .i64 ((plcM f.num left : Nat) : Int), .slice (some ⟨w4.heap.size, 0, none⟩) 1 1] W fun e w' => ∃ a c, e = .returned (.slice a (left.length + 1) c) ∧ OwnA w' w2.heap.size Z 29 3 (FmF d) (.slice a (left.length + 1) c) (insM f left) ∧ Below w2.heap.size w4 w') := hid fun W hW hB => by
    have ho : ∀ {b : Nat}, (Value.slice la left.length lc).ownBlock = some b → w2.heap.size ≤ b ∧ b < w4.heap.size := fun e => HO.out.own e
    rw [insM_at]
    refine (insertA W w2.heap.size Z d (.slice la left.length lc) left (HO.out.kept (famF d) hW) _ (plcM_le _ _) w4.heap.size (fun e => by have := (ho e).2; omega) _ _ _ f hB ((famF d).go ((famF d).old HF.out) (keepT (below_trans HB.out hW)) (fun _ _ => trivial) (fun b hz => ⟨hz.1, by have := HB.out.size; have := hW.size; have := hz.2; omega, fun e => by have := (ho e).1; have := hz.2; omega⟩)) (by have := hW.size; omega) (by have := HLL.out; omega)).mono ?_
    rintro e w' ⟨a, c, rfl, h1, h2⟩
    exact ⟨a, c, rfl, h1, ⟨h2.os.trans hW.os, h2.tape.trans hW.tape, h2.output.trans hW.output, Nat.le_trans hW.size h2.size, fun k hk => (h2.block k hk).trans (hW.block k (by omega))⟩⟩
  clear HF HO HFL HM
  have HINL : Hid ((insM f left).length = left.length + 1) := hid (by rw [insM_at]; have := plcM_le f.num left; simp; omega)
  have xm := Bm.out.cellF
  have zm := Bm.out.lt
  have xf := Bf.out.cellF
  have zf := Bf.out.lt
  have f0 : w4.cell? ⟨w.heap.size + 1 + 1, 0, none⟩ = some (.int .i64 f.num) := Bf.out.cell 0 _ rfl
  have f1 : w4.cell? ⟨w.heap.size + 1 + 1, 1, none⟩ = some (.slice ka f.ks.length kc) := Bf.out.cell 1 _ rfl
  have f2 : w4.cell? ⟨w.heap.size + 1 + 1, 2, none⟩ = some (.slice va f.vs.length vc) := Bf.out.cell 2 _ rfl
  have f3 : w4.cell? ⟨w.heap.size + 1, 1, none⟩ = some (.slice ua m.us.length uc) := Bm.out.cell 1 _ rfl
  have m1 : (left.length : Int) ≤ 9223372036854775807 := by have := HLL.out; omega
  have hq1 : w.heap.size + 1 + 1 ≠ w.heap.size + 1 + 1 + 1 := by omega
  have hq2 : w.heap.size + 1 ≠ w.heap.size + 1 + 1 + 1 := by omega
  rcases fnd_plc f.num left 0 with ⟨h1, h2⟩ | ⟨h1, h2⟩
  case' inl =>
    rw [h2] at HIN
    generalize fnd (laterB f.num) left 0 = i at *
    have k0 : (i < 0) = True := eq_true h1
    clear h1 h2
    go_wp2_with fail
  case' inr =>
    rw [h1, Nat.zero_add]
    generalize plcM f.num left = i at *
    have k0 : ((i : Int) < 0) = False := eq_false (by omega)
    clear h1 h2
    go_wp2_with fail
  all_goals (
    clear xm zm xf zf
    go_region_held3 (fun W => W.cell? ⟨w.heap.size + 1 + 1, 0, none⟩ = some (.int .i64 f.num) ∧ W.cell? ⟨w.heap.size + 1 + 1, 1, none⟩ = some (.slice ka f.ks.length kc) ∧ W.cell? ⟨w.heap.size + 1 + 1, 2, none⟩ = some (.slice va f.vs.length vc) ∧ W.cell? ⟨w.heap.size + 1, 1, none⟩ = some (.slice ua m.us.length uc)) (first | exact ⟨f0, f1, f2, f3⟩ | exact ⟨cs2 f0 hq1, cs2 f1 hq1, cs2 f2 hq1, cs2 f3 hq2⟩ | exact ⟨cell_below f0 (by exact blBy), cell_below f1 (by exact blBy), cell_below f2 (by exact blBy), cell_below f3 (by exact blBy)⟩) (first | (go_at_call 115; refine (HIN.out _ (by exact blBy) (by first | exact Blk.newAt rfl | exact Blk.newAt (by simp))).mono ?_; rintro e w5 ⟨a5, c5, rfl, ho5, hb5⟩; have HO5 := hid ho5; have hl5 : w.heap.size + 1 + 1 + 1 < w2.heap.size := (by omega); replace Br := hid ((hb5.block _ (by omega)).trans Br.out); replace Bf := hid ((hb5.block _ (by omega)).trans Bf.out); replace Bm := hid ((hb5.block _ (by omega)).trans Bm.out); replace f0 : w5.cell? ⟨w.heap.size + 1 + 1, 0, none⟩ = some (.int .i64 f.num) := Blk.cell Bf.out 0 _ rfl; replace f1 : w5.cell? ⟨w.heap.size + 1 + 1, 1, none⟩ = some (.slice ka f.ks.length kc) := Blk.cell Bf.out 1 _ rfl; replace f2 : w5.cell? ⟨w.heap.size + 1 + 1, 2, none⟩ = some (.slice va f.vs.length vc) := Blk.cell Bf.out 2 _ rfl; replace f3 : w5.cell? ⟨w.heap.size + 1, 1, none⟩ = some (.slice ua m.us.length uc) := Blk.cell Bm.out 1 _ rfl; have xr := Blk.cellF Br.out; have yr := Blk.frz Br.out; have zr := Blk.lt Br.out; clear ho5))
    go_wp2
    have HB5 : Hid (Below w.heap.size w w5) := hid ⟨hb5.os.trans HB.out.os, hb5.tape.trans HB.out.tape, hb5.output.trans HB.out.output, Nat.le_trans HB.out.size hb5.size, fun k hk => (hb5.block k (by omega)).trans (HB.out.block k hk)⟩
    have HR5 : Hid (FlsR w5 (fun b => Z b ∨ w2.heap.size ≤ b) d (.slice a5 (left.length + 1) c5) wm.fs) := hid (by rw [HWM.out]; exact HO5.out.row (famF d) (by rw [HINL.out]; have := HLL.out; omega))
    exact bodyPost_ret (v := .agg #[.slice a5 (left.length + 1) c5, .slice ua m.us.length uc]) (by simp [results, Tryz.results69, go_sem, xr, yr, zr]) rfl ⟨[.slice a5 (left.length + 1) c5, .slice ua m.us.length uc], rfl, ⟨_, _, rfl, FlsR.go (f := fun b => b ≠ w.heap.size + 1 + 1 + 1) HR5.out (by with_reducible repeat (first | exact Keep.refl _ _ | refine kpS ?_ (by first | (simp; done) | (simp; omega) | omega) | refine kpA ?_ _ | refine kpD ?_ | refine kpN ?_ _)) (fun b hz => by rcases hz with hz | hz; (have := hZ b hz; omega); omega) (fun b hz => by rcases hz with hz | hz; exact Or.inl hz; exact Or.inr (by omega)), by rw [HWU.out]; exact (EnsR.kept HUL.out (by have := HB5.out; exact blBy)).weakE (fun b hz => Or.inl hz)⟩, by have := HB5.out; exact blBy⟩)
theorem withT (w : World) (x : TV) (hx : TyR w x) (hr : Rise x.t.fs) (hl : x.t.fs.length ≤ 128) (Z : Nat → Prop) (d : Nat) (cm cf : List Value) (m : CM) (f : CF CM) (hm : MsgE w Z (d + 1) cm m) (hf : FldE w Z (MsgE w Z d) cf f) (hml : m.fs.length < 4000000) : Calls Tryz.prog 69 #[.agg (cTV x).toArray, .agg cm.toArray, .agg cf.toArray] w fun e w' => ∃ ds : List Value, e = .returned (.agg ds.toArray) ∧ MsgE w' (fun b => Z b ∨ w.heap.size ≤ b) (d + 1) ds (withM x.t.fs m f) ∧ Below w.heap.size w w' := by
  refine (withT0 w x hx hr hl (fun b => Z b ∧ b < w.heap.size) (fun b hb => hb.2) d cm cf m f (MsgE.old _ _ _ hm) ((famF d).old hf) hml).mono ?_
  rintro e w' ⟨ds, rfl, hn, hb⟩
  exact ⟨ds, rfl, MsgE.go (Keep.refl (fun _ => True) w') (fun _ _ => trivial) (fun b hz => by rcases hz with hz | hz; exact Or.inl hz.1; exact Or.inr hz) _ _ _ hn, hb⟩
end Go.Proofs.YtgephggcgopfgaaGreatDoor
