/-
  What stays of a typed message: its lists; whether all stays.
  Whether a message is normal.
  Settle: what the program answers, at every depth.
  Settle: what the program answers.
  Settle: what the program answers.
  Settle.
  Settling: what the document does to a field is what the program does; normal is: settling changes nothing.
  What is settled: it is typed, it stays, it is not deeper.
  The merge of two messages: what it holds; it is typed, and brackets make no difference.
  One struct more, out of a block of its own wherever it lies.
  A message within a field; a field around a message.
  The message to which a way leads.
  Of a typed message a way goes through messages.
  A region whose loads are of cells that its own last stores write: what is asked of the world hangs on what has come up.
-/
import Derived.Test.YtkifjpaoncjokaaGreatDoorCw8G
import Derived.Test.YtkifjpaoncjokaaGreatDoorCNK
import Derived.Test.YtkifjpaoncjokaaGreatDoorCAK
import Derived.Test.YtkifjpaoncjokaaGreatDoorCAZ
import Derived.Test.YtkifjpaoncjokaaGreatDoorCTA
import Derived.Deep.RegionHeld3
namespace Go.Proofs.YtkifjpaoncjokaaGreatDoor
open Go.RowKit
set_option maxRecDepth 1000000
set_option linter.unusedVariables false
set_option linter.unusedSimpArgs false
set_option maxHeartbeats 1000000
theorem kept_all {l : List TV} {d : Nat} {x : TV} {m : CM} (h : keptB l (d + 1) x m = true) : holdB l entB x m = true ∧ ∀ f ∈ m.fs, ∀ z ∈ allM f, keptB l d (blwB l x f) z = true := by
  unfold keptB walkB at h
  simp only [Bool.and_eq_true, List.all_eq_true] at h
  exact ⟨h.1, fun f hf z hz => h.2 f hf z hz⟩
set_option maxHeartbeats 2000000
/-- Of a typed message: its keys hold no messages; its values one, where the kind is Message, else none. -/
theorem kept_ms {l : List TV} {d : Nat} {x : TV} {m : CM} (h : keptB l (d + 1) x m = true) {f : CF CM} (hf : f ∈ m.fs) : hasF x.t.fs f.num = true ∧ (∀ v ∈ f.ks, v.ms = []) ∧ ∀ v ∈ f.vs, ((ownF x.t.fs f.num).kind ≠ 17 → v.ms = []) ∧ ((ownF x.t.fs f.num).kind = 17 → ∃ z, v.ms = [z]) := by
  have h1 := (kept_all h).1
  unfold holdB at h1
  simp only [Bool.and_eq_true, List.all_eq_true] at h1
  have h2 := h1.2.1 f hf
  unfold typB8 fieldB at h2
  simp only [Bool.and_eq_true, List.all_eq_true] at h2
  refine ⟨h2.1, fun v hv => List.eq_nil_of_length_eq_zero (fit_ms (scalar_fit (h2.2.2.2.1 v hv))), fun v hv => ⟨fun h17 => valB_ms (h2.2.2.1 v hv) h17, fun h17 => ?_⟩⟩
  have h3 := h2.2.2.1 v hv
  unfold valB at h3
  rw [if_pos h17] at h3
  simp only [Bool.and_eq_true, beq_iff_eq] at h3
  have h4 : v.ms.length = 1 := by omega
  match v.ms, h4 with
  | [z], _ => exact ⟨z, rfl⟩
def fOrd (x y : CF CM) : Int := cmpI x.num y.num
theorem fOrd_eq {x y : CF CM} : fOrd x y = 0 ↔ x.num = y.num := by unfold fOrd cmpI; split <;> (try split) <;> simp <;> omega
/-- A member of a oneof that another field list has a member of, is left out. -/
def memB (fs : List FT) (w : Int) (p : CF CM) : Bool := (ownF fs p.num).lab == 4 && (ownF fs p.num).one == w
def rivB (fs : List FT) (os : List (CF CM)) (o : CF CM) : Bool := !((ownF fs o.num).lab == 4 && os.any (memB fs (ownF fs o.num).one))
def wM (f : CF CM) : CM := match f.vs with | v :: _ => (match v.ms with | m :: _ => m | [] => CM.mk [] []) | [] => CM.mk [] []
def prs (f : CF CM) : List (CV CM × CV CM) := f.ks.zip f.vs
def kOrd (k : Int) (p q : CV CM × CV CM) : Int := (cmpE k p.1.n q.1.n p.1.b q.1.b p.1.ms.length q.1.ms.length).1
def mapM (o : FT) (a b : CF CM) : CF CM := ⟨o.num, (uni (kOrd o.key) (fun _ q => q) (prs a) (prs b)).map Prod.fst, (uni (kOrd o.key) (fun _ q => q) (prs a) (prs b)).map Prod.snd⟩
def bothF (l : List TV) (mg : TV → CM → CM → CM) (x : TV) (a b : CF CM) : CF CM :=
  if (ownF x.t.fs a.num).lab = 1 ∧ (ownF x.t.fs a.num).kind = 17 then ⟨(ownF x.t.fs a.num).num, [], [⟨0, [], [mg (blwB l x a) (wM a) (wM b)]⟩]⟩
  else if (ownF x.t.fs a.num).lab = 2 ∨ (ownF x.t.fs a.num).lab = 3 then ⟨(ownF x.t.fs a.num).num, [], a.vs ++ b.vs⟩
  else if (ownF x.t.fs a.num).lab = 5 then mapM (ownF x.t.fs a.num) a b
  else b
def mergM (l : List TV) : Nat → TV → CM → CM → CM
  | 0, _, _, b => b
  | d + 1, x, a, b => CM.mk (uni fOrd (bothF l (mergM l d) x) (a.fs.filter (rivB x.t.fs b.fs)) b.fs) (a.us ++ b.us)
theorem rowOne {α : Type} {w : World} {Z : Nat → Prop} {k : Nat} {E : List Value → α → Prop} {vb : Nat} {cs : List Value} {x : α} {t : TypeId} (hx : E cs x) (hl : cs.length = k) (hz : Z vb) (hc : Blk w vb t cs.toArray) : RowM w Z k E (.slice (some ⟨vb, 0, none⟩) [x].length 1) [x] := by
  refine ⟨[⟨cs, hl⟩], ⟨_, _, rfl, by simp [hl], by simp, by omega, .inr ⟨vb, 0, rfl, hz, fun j u hu => ?_⟩⟩, rfl, by simp, fun j t x ht hx => ?_⟩
  · rw [Nat.zero_add]
    exact hc.cell j u (by simpa using hu)
  · have e0 : j = 0 := by
      have := (List.getElem?_eq_some_iff.1 ht).1
      simpa using this
    subst e0
    simp at ht hx
    subst ht hx
    assumption
theorem OwnA.one {α : Type} {k : Nat} {E : World → (Nat → Prop) → List Value → α → Prop} (F : Fam k E) (t ts : TypeId) (bytes : Nat) (z : Value) (hts : Tryz.prog.underlying ts = some (.slice t)) (hinfo : (Tryz.prog.info? t).map (fun i => (i.zero, i.size, i.bytes)) = some (some z, k, bytes)) (hzs : z.cells.size = k) (h0 : 0 < k) (hby : bytes ≤ 400)
    {base : Nat} {Y : Nat → Prop} {v : Value} {xs : List α} {w : World} {cs : List Value} {x : α} {vb : Nat} (h : OwnA w base Y t k E v xs) (hx : E w (ZofA w Y v) cs x) (hz : ZofA w Y v vb) (hv : Blk w vb t cs.toArray) (hb : base ≤ w.heap.size) (hn : xs.length + 1 ≤ 4000000) :
    ∃ a c w', Hid ((Builtin.append_ #[ts, ts] ts #[v, .slice (some ⟨vb, 0, none⟩) 1 1]).run Tryz.prog w = .ok (.slice a (xs.length + 1) c) w') ∧ Hid (OwnA w' base Y t k E (.slice a (xs.length + 1) c) (xs ++ [x])) ∧ Hid (Grow w w' v (.slice a (xs.length + 1) c)) :=
  OwnA.app F t ts bytes z hts hinfo hzs h0 hby (ys := [x]) h (rowOne hx (F.len hx) hz hv) hb hn
set_option maxHeartbeats 4000000
theorem isWayT (o : FT) (w : World) : Calls Tryz.prog 40 #[.agg #[.string (strOfNums o.name), .int .i64 o.num, .int .i64 o.kind, .int .i64 o.ref, .int .i64 o.lab, .int .i64 o.one, .int .i64 o.key]] w fun e w' => e = .returned (.bool (o.lab == 1 && o.kind == 17)) ∧ Below w.heap.size w w' := by
  by_cases h1 : o.lab = 1
  · have k1 : (o.lab == 1) = true := by simp [h1]
    go_enter Tryz.func40, Tryz.ntmps40
    go_wp2
    go_ret
    exact ⟨ret_bool (by simp [h1]), by exact blBy⟩
  · have k1 : (o.lab == 1) = false := by simp [h1]
    go_enter Tryz.func40, Tryz.ntmps40
    go_wp2
    go_ret
    exact ⟨ret_bool (by simp [h1]), by exact blBy⟩
theorem withinT (d : Nat) (w : World) (Z : Nat → Prop) (cs : List Value) (f : CF CM) (h : FmF d w Z cs f) (v : CV CM) (vs : List (CV CM)) (hv : f.vs = v :: vs) (m : CM) (ms : List CM) (hm : v.ms = m :: ms) : Calls Tryz.prog 44 #[.agg cs.toArray] w fun e w' => ∃ ds : List Value, e = .returned (.agg ds.toArray) ∧ MsgE w' Z d ds m ∧ Below w.heap.size w w' := by
  obtain ⟨ka, kc, va, vc, rfl, g1, g2, -⟩ := fld_open h
  obtain ⟨b1, o1, ba, bc, ma, mc, rfl, -, hb1, c0, c1, c2, he⟩ := vls_at g2 (i := 0) (by rw [hv]; simp)
  have ev : f.vs[0]'(by rw [hv]; simp) = v := by simp [hv]
  rw [ev] at c2 he
  obtain ⟨_, _, ma', mc', e1, -, g4, -⟩ := val_open he
  simp only [List.cons.injEq, Value.slice.injEq, true_and, and_true] at e1
  obtain ⟨-, rfl, rfl⟩ := e1
  obtain ⟨b2, o2, ds, e2, -, hb2, hl2, hm2, hc2⟩ := RowM.at g4 (by decide) (i := 0) (by rw [hm]; simp)
  have em : v.ms[0]'(by rw [hm]; simp) = m := by simp [hm]
  rw [em] at hm2
  subst e2
  have HM := hid hm2
  obtain ⟨fa, fc, ua, uc, rfl, -⟩ := msg_openD HM.out
  have d0 := hc2 0 _ rfl
  have d1 := hc2 1 _ rfl
  simp only [Nat.zero_mul, Nat.add_zero] at c2 d0 d1
  have n1 : (0 : Int) < (f.vs.length : Int) := by rw [hv]; simp
  have n2 : (0 : Int) < (v.ms.length : Int) := by rw [hm]; simp
  clear h g1 g2 he g4 hm2 hc2 c0 c1 hv hm ev em
  go_enter Tryz.func44, Tryz.ntmps44
  go_wp2
  exact bodyPost_ret (v := .agg #[.slice fa m.fs.length fc, .slice ua m.us.length uc]) (by simp [results, Tryz.results44, go_sem]) rfl ⟨_, rfl, MsgE.kept HM.out (by exact blBy), by exact blBy⟩
theorem aroundT (d : Nat) (w : World) (Z : Nat → Prop) (cs : List Value) (m : CM) (n : Int) (h : MsgE w Z d cs m) (hn : I64 n) : Calls Tryz.prog 68 #[.int .i64 n, .agg cs.toArray] w fun e w' => ∃ es : List Value, e = .returned (.agg es.toArray) ∧ FmF d w' (fun b => Z b ∨ w.heap.size ≤ b) es ⟨n, [], [⟨0, [], [m]⟩]⟩ ∧ Below w.heap.size w w' := by
  have HM := hid h
  obtain ⟨fa, fc, ua, uc, rfl, -⟩ := msg_openD h
  clear h
  go_enter Tryz.func68, Tryz.ntmps68
  go_wp2
  refine bodyPost_ret (v := .agg #[.int .i64 n, .slice none 0 0, .slice (some ⟨w.heap.size + 1 + 1 + 1, 0, none⟩) 1 1]) (by simp [results, Tryz.results68, go_sem]) rfl ⟨[.int .i64 n, .slice none 0 0, .slice (some ⟨w.heap.size + 1 + 1 + 1, 0, none⟩) 1 1], rfl, ?_, by exact blBy⟩
  refine ⟨_, _, rfl, RowM.nil _ _ _ _, ?_, hn⟩
  refine rowOne (t := 39) (cs := [.int .u64 0, .slice none 0 0, .slice (some ⟨w.heap.size + 1 + 1, 0, none⟩) 1 1]) ?_ rfl (Or.inr (by omega)) (Blk.newAt (by simp))
  refine ⟨_, _, rfl, ⟨rowS_nil _ _ 1, by simp, by simp⟩, rowOne (t := 29) (cs := [.slice fa m.fs.length fc, .slice ua m.us.length uc]) ?_ rfl (Or.inr (by omega)) ((Blk.newAt (by simp)).kept (below_alloc _)), ⟨by simp, by simp⟩⟩
  exact MsgE.go (keepT (by exact blBy)) (fun _ _ => trivial) (fun _ h => Or.inl h) d _ _ HM.out
set_option maxHeartbeats 600000
def wthM (x : CF CM) : CM := match x.vs with
  | v :: _ => (match v.ms with | m :: _ => m | [] => CM.mk [] [])
  | [] => CM.mk [] []
def intoM : List Int → CM → CM
  | [], m => m
  | n :: r, m => match m.fs.find? (isN n) with
    | none => CM.mk [] []
    | some x => intoM r (wthM x)
/-- What a way goes through has messages within. -/
def PthOk : List Int → CM → Prop
  | [], _ => True
  | n :: r, m => ∀ x, m.fs.find? (isN n) = some x → (∃ v vs z zs, x.vs = v :: vs ∧ v.ms = z :: zs) ∧ PthOk r (wthM x)
theorem intoFn (w : World) (Z : Nat → Prop) (d : Nat) (cs : List Value) (x : CF CM) (h : FmF d w Z cs x) (p : Nat) (n : Int) (hp : Blk w p 3 #[.int .i64 n]) : Calls Tryz.prog 43 #[.agg cs.toArray, .pointer (some ⟨p, 0, none⟩)] w fun e w' => e = .returned (.bool (isN n x)) ∧ Below w.heap.size w w' := by
  obtain ⟨ka, kc, va, vc, rfl, -⟩ := fld_open h
  have xp := hp.cellF
  have zp := hp.lt
  clear h hp
  go_enter Tryz.func43, Tryz.ntmps43
  go_wp2
  go_ret
  exact ⟨ret_bool (by unfold isN; by_cases q : x.num = n <;> simp [q]), by exact blBy⟩
theorem cfInto (args : Array Value) (W : World) : (callFunc 43 args).run Tryz.prog W = .ok (.enter 43 args) W := cf_enter Tryz.func43 (by kernel_rfl) (by kernel_rfl) args W
theorem intoT (w : World) (ws : List Int) (wa : Option Addr) (wc : Nat) (hw : RowS w AnyZ 1 (.slice wa ws.length wc) ws.length (ws.flatMap cI64)) (Z : Nat → Prop) (d : Nat) (cs : List Value) (m0 : CM) (hm : MsgE w Z (d + 1) cs m0) (hp : PthOk ws m0) : Calls Tryz.prog 25 #[.slice wa ws.length wc, .agg cs.toArray] w fun e w' => ∃ ds : List Value, e = .returned (.agg ds.toArray) ∧ MsgE w' Z (d + 1) ds (intoM ws m0) ∧ Below w.heap.size w w' := by
  obtain ⟨_, _, e, hn⟩ := rowS_sl hw
  clear e
  have n63 : (ws.length : Int) ≤ 9223372036854775807 := by omega
  have HW := hid hw
  obtain ⟨fa, fc, ua, uc, rfl, -⟩ := msg_openD hm
  replace hm := (famM (d + 1)).old hm
  obtain ⟨Y, eY⟩ : ∃ Y : Nat → Prop, Y = fun b => Z b ∧ b < w.heap.size := ⟨_, rfl⟩
  rw [← eY] at hm
  have HY : Hid (∀ b, Y b → Z b ∧ b < w.heap.size) := hid (fun b hb => by rw [eY] at hb; exact hb)
  clear eY
  have HM0 := hid (MsgE.kept hm (below_alloc (w := w) (.cells #[.slice fa m0.fs.length fc, .slice ua m0.us.length uc] 29)))
  have HST : Hid (PthOk (ws.drop 0) m0 ∧ intoM ws m0 = intoM (ws.drop 0) m0) := hid ⟨hp, rfl⟩
  clear hw hm hp hn
  go_enter Tryz.func25, Tryz.ntmps25
  go_wp2
  go_loopw [10] (fun r wr => ∃ (j : Nat) (m : CM) (fa : Option Addr) (fc : Nat) (ua : Option Addr) (uc : Nat), r = .int .i64 j ∧ j ≤ ws.length ∧ Hid (PthOk (ws.drop j) m ∧ intoM ws m0 = intoM (ws.drop j) m) ∧ Hid (MsgE wr Y (d + 1) [.slice fa m.fs.length fc, .slice ua m.us.length uc] m) ∧ Hid (Blk wr w.heap.size 29 #[.slice fa m.fs.length fc, .slice ua m.us.length uc]) ∧ Hid (Blk wr (w.heap.size + 1) 29 #[.slice none 0 0, .slice none 0 0]) ∧ Hid (Below w.heap.size w wr)) (fun r wr => ws.length - numAt wr r)
  case atStart => exact ⟨0, m0, fa, fc, ua, uc, rfl, by omega, HST, hid (MsgE.kept HM0.out (below_alloc _)), hid ((Blk.new _ _ _).kept (below_alloc _)), hid (Blk.newAt (by simp)), hid (by exact blBy)⟩
  case round =>
    clear HM0 HST
    obtain ⟨j, m, fa, fc, ua, uc, rfl, hj, HP, HM, BM, BR, hb⟩ := hrel
    have xm := BM.out.cellF
    have zm := BM.out.lt
    have ym := BM.out.frz
    have xr := BR.out.cellF
    have zr := BR.out.lt
    have yr := BR.out.frz
    by_cases hlt : j < ws.length
    · have j1 : (j : Int) < (ws.length : Int) := by omega
      obtain ⟨pb, po, epb, hc⟩ := rowAt (g := cI64) (fun _ => rfl) (HW.out.kept hb.out) (i := j) (x := ws[j]) (by simp [hlt])
      have c0 := hc 0 _ rfl
      clear hc
      subst epb
      simp only [Nat.mul_one, Nat.add_zero] at c0
      have hpb : pb < wr.heap.size := World.block_lt_of_cell? _ _ c0
      have HPJ : Hid ((∀ x, m.fs.find? (isN ws[j]) = some x → (∃ v vs z zs, x.vs = v :: vs ∧ v.ms = z :: zs) ∧ PthOk (ws.drop (j + 1)) (wthM x)) ∧ intoM ws m0 = (match m.fs.find? (isN ws[j]) with
        | none => CM.mk [] []
        | some x => intoM (ws.drop (j + 1)) (wthM x))) := hid (by
        have := HP.out
        rw [List.drop_eq_getElem_cons hlt] at this
        exact this)
      clear HP
      generalize ws[j] = n at *
      obtain ⟨_, _, _, _, e1, hfs, -, -, -⟩ := msg_open HM.out
      simp only [List.cons.injEq, Value.slice.injEq] at e1
      obtain ⟨⟨rfl, -, rfl⟩, -⟩ := e1
      have HFS := hid hfs
      clear hfs
      have HI := hid fun W (hW : Below wr.heap.size wr W) (p : Nat) (hp : Blk W p 3 #[.int .i64 n]) => idxFld W Y d m.fs fa fc (HFS.out.kept hW) 43 #[.pointer (some ⟨p, 0, none⟩)] cfInto (isN n) (fun W' hW' cs x _ hx => intoFn W' Y d cs x hx p n (hp.kept hW'))
      go_wp2_with fail
      refine (HI.out _ (by exact blBy) wr.heap.size (Blk.new _ _ _)).mono ?_
      rintro e w1 ⟨rfl, hb1⟩
      replace hb1 : Hid (Below wr.heap.size wr w1) := hid (below_trans (below_alloc _) hb1)
      have BM1 := hid (BM.out.kept hb1.out)
      have BR1 := hid (BR.out.kept hb1.out)
      have HF1 := hid (HFS.out.kept hb1.out)
      have HBB : Hid (Below w.heap.size w w1) := hid (bl_then hb.out hb1.out)
      clear xm zm ym xr zr yr BM BR HI HFS
      have xm := BM1.out.cellF
      have zm := BM1.out.lt
      have ym := BM1.out.frz
      have xr := BR1.out.cellF
      have zr := BR1.out.lt
      have yr := BR1.out.frz
      rcases fnd_find (isN n) m.fs 0 with ⟨hq, hf⟩ | ⟨k, hk, hq, hf⟩
      · rw [fnd_ge _ _ 0 hq]
        rw [hf] at HPJ
        have HR : Hid (intoM ws m0 = CM.mk [] []) := hid HPJ.out.2
        clear hq hf HPJ
        go_wp2
        exact bodyPost_ret (v := .agg #[.slice none 0 0, .slice none 0 0]) (by simp [results, Tryz.results25, go_sem, xr, zr, yr]) rfl ⟨[.slice none 0 0, .slice none 0 0], rfl, by rw [HR.out]; exact ⟨_, _, rfl, RowM.nil _ _ _ _, RowM.nil _ _ _ _⟩, by have := HBB.out; exact blBy⟩
      · rw [hq]
        simp only [Nat.zero_add]
        rw [hf] at HPJ
        have HPX := hid (HPJ.out.1 _ rfl)
        have HR : Hid (intoM ws m0 = intoM (ws.drop (j + 1)) (wthM m.fs[k])) := hid HPJ.out.2
        have r1 : ((k : Int) < 0) = False := eq_false (by omega)
        have r2 : (k : Int) < (m.fs.length : Int) := by omega
        obtain ⟨fb, fo, ka, kc, va, vc, efa, -, hfb, d0, d1, d2, hfe⟩ := fls_at HF1.out hk
        subst efa
        have HFE := hid hfe
        clear hq hf HPJ hfe
        replace hk := hid hk
        generalize m.fs[k]'hk.out = x at *
        obtain ⟨v, vs, z, zs, ev, ez⟩ := HPX.out.1
        have HWT := hid (fun W (hW : Below w1.heap.size w1 W) => withinT d W Y _ x (FldE.kept HFE.out hW) v vs ev z zs ez)
        have EZ : Hid (wthM x = z) := hid (by unfold wthM; rw [ev]; dsimp only; rw [ez])
        rw [EZ.out] at HPX HR
        clear ev ez EZ
        go_wp2_with fail
        refine (HWT.out _ (by first | exact Below.refl _ _ | exact blBy)).mono ?_
        rintro e w2 ⟨ds, rfl, hds, hb2⟩
        obtain ⟨fa2, fc2, ua2, uc2, rfl, -⟩ := msg_openD hds
        have BM2 := hid (BM1.out.kept hb2)
        have BR2 := hid (BR1.out.kept hb2)
        have HB2 : Hid (Below w.heap.size w w2) := hid (bl_then HBB.out hb2)
        have HM2 : Hid (MsgE ((w2.setCell ⟨w.heap.size, 0, none⟩ (.slice fa2 z.fs.length fc2)).setCell ⟨w.heap.size, 1, none⟩ (.slice ua2 z.us.length uc2)) Y (d + 1) [.slice fa2 z.fs.length fc2, .slice ua2 z.us.length uc2] z) := hid (MsgE.more _ _ _ (MsgE.go ((Keep.setCell (f := (· < w.heap.size)) _ _ _ (by simp)).trans (Keep.setCell _ _ _ (by simp))) (fun k hk => (HY.out k hk).2) (fun _ h => h) _ _ _ hds))
        have HPN : Hid (PthOk (ws.drop (j + 1)) z ∧ intoM ws m0 = intoM (ws.drop (j + 1)) z) := hid ⟨HPX.out.2, HR.out⟩
        clear hb2 hds HPX HR xm zm ym xr zr yr BM1 BR1 HBB HWT HF1 HFE HM
        have xm := BM2.out.cellF
        have zm := BM2.out.lt
        have ym := BM2.out.frz
        go_wp2
        exact ⟨⟨j + 1, z, fa2, fc2, ua2, uc2, by simp, by omega, HPN, HM2, hid ((BM2.out.set 0 _).set 1 _), hid ((BR2.out.oth).oth), hid (by have := HB2.out; exact blBy)⟩, by simp [numAt]; omega⟩
    · have j1 : ¬ (j : Int) < (ws.length : Int) := by omega
      have HR : Hid (intoM ws m0 = m) := hid (by
        rw [HP.out.2, List.drop_of_length_le (by omega)]
        rfl)
      have HMZ : Hid (∀ W, Keep (· < w.heap.size) wr W → MsgE W Z (d + 1) [.slice fa m.fs.length fc, .slice ua m.us.length uc] m) := hid (fun W hW => MsgE.go hW (fun k hk => (HY.out k hk).2) (fun k hk => (HY.out k hk).1) _ _ _ HM.out)
      go_wp2
      exact bodyPost_ret (v := .agg #[.slice fa m.fs.length fc, .slice ua m.us.length uc]) (by simp [results, Tryz.results25, go_sem, xr, zr, yr]) rfl ⟨[.slice fa m.fs.length fc, .slice ua m.us.length uc], rfl, by rw [HR.out]; exact HMZ.out _ ((Keep.setCell _ _ _ (by simp)).trans (Keep.setCell _ _ _ (by simp))), by have := hb.out; exact blBy⟩
theorem riseOneW {fs : List FT} (h : Rise fs) {a b : FT} (ha : a ∈ fs) (hb : b ∈ fs) (e : a.num = b.num) : a = b := by
  obtain ⟨i, hi, rfl⟩ := List.mem_iff_getElem.1 ha
  obtain ⟨j, hj, rfl⟩ := List.mem_iff_getElem.1 hb
  rcases Nat.lt_trichotomy i j with q | q | q
  · have := h i j q hj hi; omega
  · subst q; rfl
  · have := h j i q hi hj; omega
theorem way_ne {l : List TV} : ∀ (n : Nat) (fs : List FT) (p ws : List Int), wayM l n fs p = some ws → ws ≠ []
  | 0, _, _, _, h => by cases h
  | n + 1, fs, p, ws, h => by
    rw [wayM] at h
    split at h
    · cases h
    · split at h
      · split at h
        · obtain ⟨r, _, rfl⟩ := Option.map_eq_some_iff.1 h
          simp
        · cases h
      · cases h; simp
theorem kept_shape {l : List TV} {d : Nat} {x : TV} {m : CM} (h : keptB l (d + 1) x m = true) {f : CF CM} (hf : f ∈ m.fs) : shapeB (ownF x.t.fs f.num).lab f = true := by
  have h1 := (kept_all h).1
  unfold holdB at h1
  simp only [Bool.and_eq_true, List.all_eq_true] at h1
  have h2 := h1.2.1 f hf
  unfold typB8 fieldB at h2
  simp only [Bool.and_eq_true, List.all_eq_true] at h2
  exact h2.2.1
theorem kept_way {l : List TV} (hg : goodB l = true) {d : Nat} {x : TV} (hx : x ∈ l) {m : CM} (h : keptB l (d + 1) x m = true) {f : FT} (hf : f ∈ x.t.fs) (hw : isWyB f = true) {y : CF CM} (hy : m.fs.find? (isN f.num) = some y) : ∃ v z t, y.vs = [v] ∧ v.ms = [z] ∧ l[f.ref.toNat]? = some t ∧ t ∈ l ∧ keptB l d t z = true := by
  have hm := List.mem_of_find?_eq_some hy
  have hn : y.num = f.num := by have := List.find?_some hy; unfold isN at this; exact of_decide_eq_true this
  unfold isWyB at hw
  simp only [Bool.and_eq_true, decide_eq_true_eq] at hw
  obtain ⟨k1, k2, k3⟩ := kept_ms h hm
  have ho := ownF_hasF k1
  have eo : ownF x.t.fs y.num = f := riseOneW (good_rise hg hx).1 ho.1 hf (by rw [ho.2, hn])
  have hs := kept_shape h hm
  rw [eo, hw.1] at hs
  unfold shapeB at hs
  rw [if_neg (by decide), if_neg (by decide)] at hs
  simp only [Bool.and_eq_true, decide_eq_true_eq] at hs
  obtain ⟨v, ev⟩ : ∃ v, y.vs = [v] := by
    match y.vs, hs.2 with
    | [v], _ => exact ⟨v, rfl⟩
  obtain ⟨z, ez⟩ := (k3 v (by rw [ev]; simp)).2 (by rw [eo]; exact hw.2)
  obtain ⟨r0, r1⟩ := good_refs hg hx hf
  have et : l[f.ref.toNat]? = some l[f.ref.toNat] := List.getElem?_eq_getElem r1
  refine ⟨v, z, l[f.ref.toNat], ev, ez, et, List.getElem_mem r1, ?_⟩
  have := (kept_all h).2 y hm z (by unfold allM; simp [ev, ez])
  unfold blwB at this
  rw [eo, et] at this
  exact this
theorem RowM.eachW {α : Type} {w : World} {Z : Nat → Prop} {k : Nat} {E : List Value → α → Prop} {v : Value} {xs : List α} (h : RowM w Z k E v xs) : ∀ x ∈ xs, ∃ cs, E cs x := by
  intro x hx
  obtain ⟨ts, _, hl, _, he⟩ := h
  obtain ⟨i, hi, rfl⟩ := List.mem_iff_getElem.1 hx
  exact ⟨_, he i ts[i] xs[i] (by simp) (by simp)⟩
theorem msg_within {w : World} {Z : Nat → Prop} {d : Nat} {cs : List Value} {m : CM} (h : MsgE w Z (d + 1) cs m) {y : CF CM} (hy : y ∈ m.fs) {v : CV CM} (hv : v ∈ y.vs) {z : CM} (hz : z ∈ v.ms) : ∃ ds, MsgE w Z d ds z := by
  obtain ⟨_, _, _, h1, _⟩ := h
  obtain ⟨_, _, _, _, _, h2, _⟩ := RowM.eachW h1 y hy
  obtain ⟨_, _, _, _, _, h3, _⟩ := RowM.eachW h2 v hv
  exact RowM.eachW h3 z hz
theorem way_pth {l : List TV} (hg : goodB l = true) (w : World) (Z : Nat → Prop) : ∀ (n d : Nat) (x : TV) (m : CM) (p ws : List Int), x ∈ l → (∃ cs, MsgE w Z d cs m) → keptB l d x m = true → wayM l n x.t.fs p = some ws → PthOk ws.dropLast m
  | 0, _, _, _, _, _, _, _, _, h => by cases h
  | n + 1, d, x, m, p, ws, hx, hM, hk, h => by
    rw [wayM] at h
    split at h
    · cases h
    · rename_i f hf
      have hfm := List.mem_of_find?_eq_some hf
      split at h
      · split at h
        · rename_i hG hW
          obtain ⟨r, hr, rfl⟩ := Option.map_eq_some_iff.1 h
          have hne := way_ne _ _ _ _ hr
          rw [List.dropLast_cons_of_ne_nil hne]
          intro y hy
          cases d with
          | zero => obtain ⟨cs, hc⟩ := hM; exact hc.elim
          | succ d =>
            obtain ⟨v, z, t, ev, ez, et, htl, hkz⟩ := kept_way hg hx hk hfm hW hy
            refine ⟨⟨v, [], z, [], ev, ez⟩, ?_⟩
            have ew : wthM y = z := by unfold wthM; rw [ev]; dsimp only; rw [ez]
            rw [ew]
            rw [et] at hr
            obtain ⟨cs, hc⟩ := hM
            exact way_pth hg w Z n d t z _ _ htl (msg_within (v := v) hc (List.mem_of_find?_eq_some hy) (by rw [ev]; simp) (by rw [ez]; simp)) hkz hr
        · cases h
      · cases h; exact trivial
section
variable {P : Program} {ops : Array Oper} {Q : Exit → Act → World → Prop} {md : Region.Mode} {S : Array Bool → World → Prop}
/-- Whatever order is picked from here on; S holds behind each operation, of what has come up by then. -/
def wpAnyL (P : Program) (md : Region.Mode) (ops : Array Oper) (Q : Exit → Act → World → Prop) (S : Array Bool → World → Prop) : Nat → Array Bool → Act → World → Prop
  | 0, l, a, w => Region.ready md ops l = [] ∧ Q .normal a w
  | n + 1, l, a, w => (Region.ready md ops l = [] → Q .normal a w) ∧ ∀ i ∈ Region.ready md ops l, wpOp P ops Q i (fun a' w' => S (l.setIfInBounds i true) w' ∧ wpAnyL P md ops Q S n (l.setIfInBounds i true) a' w') a w
theorem wpAny_of_L : ∀ (n : Nat) (l : Array Bool) (a : Act) (w : World), wpAnyL P md ops Q S n l a w → wpAny P md ops Q n l a w
  | 0, _, _, _, h => h
  | n + 1, _, _, _, h => ⟨h.1, fun i hi => wpOp_mono (fun a' w' g => wpAny_of_L n _ a' w' g.2) (h.2 i hi)⟩
theorem wpAnyL_first {T : World → Prop} {R : Array Bool → Prop} {i : Nat} {oi : Oper} {v : Value} (hi : ops[i]? = some oi) (hsel : ∀ (j : Nat) (o : Oper) cs b, ops[j]? = some o → o.op ≠ .select cs b)
    (hQ : ∀ c a w, Q (.panic c) (a.put oi.dst v) w → Q (.panic c) a w) (hSi : ∀ l w, S (l.setIfInBounds i true) w → S l w) (hST : ∀ l w, R l → S l w → T w)
    (hR : ∀ j l, j ≠ i → i ∈ Region.ready md ops l → j ∈ Region.ready md ops l → R l → R (l.setIfInBounds j true)) :
    ∀ (n : Nat) (l : Array Bool) (a : Act) (w : World),
      (∀ j oj, ops[j]? = some oj → j ≠ i → l.getD j true = false → (∀ e ∈ oj.after, Region.binds md e = true → e.on ≠ i) → oi.apart ops oj = true) →
      i ∈ Region.ready md ops l → R l → YieldsIf P ops T oi v a → S l w → S (l.setIfInBounds i true) w →
      wpAnyL P md ops Q S n (l.setIfInBounds i true) (a.put oi.dst v) w → wpAnyL P md ops Q S (n + 1) l a w := by
  intro n
  induction n with
  | zero =>
    intro l a w _ hr hRl hy hS hS2 H
    refine ⟨fun h => (by rw [h] at hr; cases hr), fun j hj => ?_⟩
    by_cases hji : j = i
    · subst hji
      exact hy.wpOp hi (hST l w hRl hS) ⟨hS2, H⟩
    · have := ready_mono hj hji
      rw [H.1] at this
      cases this
  | succ n ih =>
    intro l a w hfree hr hRl hy hS hS2 H
    refine ⟨fun h => (by rw [h] at hr; cases hr), fun j hj => ?_⟩
    by_cases hji : j = i
    · subst hji
      exact hy.wpOp hi (hST l w hRl hS) ⟨hS2, H⟩
    · have h1 := H.2 j (ready_mono hj hji)
      obtain ⟨hjun, oj, hoj, hall⟩ := mem_ready.1 hj
      have hnot : ∀ e ∈ oj.after, Region.binds md e = true → e.on ≠ i := fun e he hb heq => by
        have g1 := hall e he hb
        have g0 := (mem_ready.1 hr).1
        rw [heq] at g1
        rcases Nat.lt_or_ge i l.size with h' | h'
        · simp [h'] at g0 g1
          rw [g0] at g1
          cases g1
        · simp [Array.getElem?_eq_none h'] at g1
      have h2 := wpOp_putIf hoj (hfree j oj hoj hji hjun hnot) (fun cs b => hsel i oi cs b hi) (fun cs b => hsel j oj cs b hoj) hQ hy h1
      have hfree' : ∀ k ok, ops[k]? = some ok → k ≠ i → (l.setIfInBounds j true).getD k true = false → (∀ e ∈ ok.after, Region.binds md e = true → e.on ≠ i) → oi.apart ops ok = true := fun k ok hk hki hun hno => by
        refine hfree k ok hk hki ?_ hno
        by_cases hjk : j = k
        · subst hjk
          exact hjun
        · rw [getD_set_ne true hjk] at hun
          exact hun
      refine wpOp_mono (fun a' w' h3 => ?_) h2
      have e : (l.setIfInBounds i true).setIfInBounds j true = (l.setIfInBounds j true).setIfInBounds i true := by rw [Array.setIfInBounds_comm _ _ (Ne.symm hji)]
      rw [e] at h3
      have s2 := hSi _ _ h3.2.1
      exact ⟨s2, ih (l.setIfInBounds j true) a' w' hfree' (ready_mono hr (Ne.symm hji)) (hR j l hji hr hj hRl) h3.1 s2 h3.2.1 h3.2.2⟩
/-- S1 is asked until the operation k has come up. -/
def SL (S0 S1 : World → Prop) (k : Nat) (l : Array Bool) (w : World) : Prop := S0 w ∧ (l.getD k true = false → S1 w)
variable {S0 S1 : World → Prop} {k : Nat}
theorem SL.of {l : Array Bool} {w : World} (h0 : S0 w) (h1 : S1 w) : SL S0 S1 k l w := ⟨h0, fun _ => h1⟩
theorem SL.late {l : Array Bool} {w : World} (h0 : S0 w) (h1 : l.getD k true = true) : SL S0 S1 k l w := ⟨h0, fun h => by rw [h1] at h; cases h⟩
theorem SL.back {i : Nat} (h : i ≠ k) (l : Array Bool) (w : World) : SL S0 S1 k (l.setIfInBounds i true) w ↔ SL S0 S1 k l w := by
  unfold SL
  rw [getD_set_ne true h]
/-- Taken first: it yields wherever S0 holds. -/
theorem takeL0 (i : Nat) {oi : Oper} {v : Value} {n : Nat} {l : Array Bool} {a : Act} {w : World} (hi : ops[i]? = some oi) (hs : Region.noSelect ops = true) (hf : Region.free md ops l i = true) (hr : (Region.ready md ops l).contains i = true)
    (hQ : ∀ c a w, Q (.panic c) (a.put oi.dst v) w → Q (.panic c) a w) (hik : (i != k) = true) (hy : YieldsIf P ops S0 oi v a) (hS : SL S0 S1 k l w)
    (h : SL S0 S1 k (l.setIfInBounds i true) w → wpAnyL P md ops Q (SL S0 S1 k) n (l.setIfInBounds i true) (a.put oi.dst v) w) : wpAnyL P md ops Q (SL S0 S1 k) (n + 1) l a w := by
  have hk : i ≠ k := by simpa using hik
  have s2 := (SL.back (S0 := S0) (S1 := S1) hk l w).2 hS
  exact wpAnyL_first (T := S0) (R := fun _ => True) hi (Region.noSelect_spec hs) hQ (fun l w => (SL.back hk l w).1) (fun _ _ _ h => h.1) (fun _ _ _ _ _ _ => trivial) n l a w (Region.free_spec hi hf) (by simpa using hr) trivial hy hS s2 (h s2)
/-- Taken first: it yields wherever S0 and S1 hold; the operation k waits for it. -/
theorem takeL1 (i : Nat) {oi ok : Oper} {v : Value} {n : Nat} {l : Array Bool} {a : Act} {w : World} (hi : ops[i]? = some oi) (hk : ops[k]? = some ok) (hke : ok.after.any (fun e => Region.binds md e && e.on == i) = true) (hl : l.getD k true = false) (hs : Region.noSelect ops = true) (hf : Region.free md ops l i = true) (hr : (Region.ready md ops l).contains i = true)
    (hQ : ∀ c a w, Q (.panic c) (a.put oi.dst v) w → Q (.panic c) a w) (hik : (i != k) = true) (hy : YieldsIf P ops (fun w => S0 w ∧ S1 w) oi v a) (hS : SL S0 S1 k l w)
    (h : SL S0 S1 k (l.setIfInBounds i true) w → wpAnyL P md ops Q (SL S0 S1 k) n (l.setIfInBounds i true) (a.put oi.dst v) w) : wpAnyL P md ops Q (SL S0 S1 k) (n + 1) l a w := by
  have hk' : i ≠ k := by simpa using hik
  have s2 := (SL.back (S0 := S0) (S1 := S1) hk' l w).2 hS
  refine wpAnyL_first (T := fun w => S0 w ∧ S1 w) (R := fun l => l.getD k true = false) hi (Region.noSelect_spec hs) hQ (fun l w => (SL.back hk' l w).1) (fun _ _ g h => ⟨h.1, h.2 g⟩) ?_ n l a w (Region.free_spec hi hf) (by simpa using hr) hl hy hS s2 (h s2)
  intro j l hji hri hrj hRl
  by_cases hjk : j = k
  · subst hjk
    obtain ⟨e, he, hb⟩ := Array.any_eq_true'.1 hke
    simp only [Bool.and_eq_true, beq_iff_eq] at hb
    obtain ⟨-, o, ho, hall⟩ := mem_ready.1 hrj
    rw [hk] at ho
    cases ho
    have g1 := hall e he hb.1
    rw [hb.2] at g1
    have g0 := (mem_ready.1 hri).1
    rcases Nat.lt_or_ge i l.size with h' | h'
    · simp [h'] at g0 g1
      rw [g0] at g1
      cases g1
    · simp [Array.getElem?_eq_none h'] at g1
  · rw [getD_set_ne true hjk]
    exact hRl
def AllReadyL (P : Program) (md : Region.Mode) (ops : Array Oper) (Q : Exit → Act → World → Prop) (S : Array Bool → World → Prop) (n : Nat) (l : Array Bool) (a : Act) (w : World) (rs : List Nat) : Prop :=
  ∀ i ∈ rs, wpOp P ops Q i (fun a' w' => S (l.setIfInBounds i true) w' ∧ wpAnyL P md ops Q S n (l.setIfInBounds i true) a' w') a w
theorem AllReadyL.nil {n : Nat} {l : Array Bool} {a : Act} {w : World} : AllReadyL P md ops Q S n l a w [] := fun _ h => by cases h
theorem AllReadyL.cons {n : Nat} {l : Array Bool} {a : Act} {w : World} {i : Nat} {o : Oper} {rs : List Nat} (ho : ops[i]? = some o)
    (h : ∀ K' : Act → World → Prop, Shut (∀ a w, S (l.setIfInBounds i true) w → (S (l.setIfInBounds i true) w → wpAnyL P md ops Q S n (l.setIfInBounds i true) a w) → K' a w) → if Region.wanted o (yielded ops a.tmps) = true then Oper.wp P o a w K' Q else K' (a.put o.dst undef) w)
    (hs : AllReadyL P md ops Q S n l a w rs) : AllReadyL P md ops Q S n l a w (i :: rs) := fun j hj => by
  rcases List.mem_cons.1 hj with rfl | hj
  · exact wpOp_step ho (fun K' hK => h K' (fun a w hS hW => hK a w ⟨hS, hW hS⟩))
  · exact hs j hj
theorem wpAnyL_ready {rs : List Nat} {n : Nat} {l : Array Bool} {a : Act} {w : World} (hr : Region.ready md ops l = rs) (hne : rs ≠ []) (h : AllReadyL P md ops Q S n l a w rs) : wpAnyL P md ops Q S (n + 1) l a w := ⟨fun h0 => absurd (hr ▸ h0) hne, hr ▸ h⟩
theorem wpAnyL_done {l : Array Bool} {a : Act} {w : World} (hr : Region.ready md ops l = []) (h : Q .normal a w) : ∀ n, wpAnyL P md ops Q S n l a w
  | 0 => ⟨hr, h⟩
  | _ + 1 => ⟨fun _ => h, by rw [hr]; simp⟩
theorem wp_regionL {id : Nat} {a : Act} {w : World} (hm : P.follows .mixedOrders = true) (hS : S (Array.replicate ops.size false) w.drew) (h : S (Array.replicate ops.size false) w.drew → wpAnyL P .any ops Q S ops.size (Array.replicate ops.size false) a w.drew) : (Code.region id ops true).wp P Q a w := wp_region_any hm (wpAny_of_L _ _ _ _ (h hS))
end
end Go.Proofs.YtkifjpaoncjokaaGreatDoor
