/-
  Whether a message is typed, with all messages within.
  The document's Typed: what it asks, field by field; and that this is what the program asks.
  What stays of a typed message.
  What stays of a typed message: its lists; whether all stays.
  Whether a message is normal.
  Settle: what the program answers, at every depth.
  Settle: what the program answers.
  Settle: what the program answers.
  Settle.
  Settling: what the document does to a field is what the program does; normal is: settling changes nothing.
  What is settled: it is typed, it stays, it is not deeper.
  The merge of two messages: what it holds; it is typed, and brackets make no difference.
  The document's Copy: an entry, a message of copied fields.
  The union of two lists of fields: what the program answers.
  Pairs of values: slices.Grow, slices.Concat.
-/
import Derived.Test.YtnebbmeomjiogaaGreatDoorCw8G
import Derived.Test.YtnebbmeomjiogaaGreatDoorCAQ
import Derived.Test.YtnebbmeomjiogaaGreatDoorCNS
import Derived.Test.YtnebbmeomjiogaaGreatDoorCNA
import Derived.Test.YtnebbmeomjiogaaGreatDoorCFA
import Derived.Deep.RegionHeld3
namespace Go.Proofs.YtnebbmeomjiogaaGreatDoor
open Go.RowKit
set_option maxRecDepth 1000000
set_option linter.unusedVariables false
set_option linter.unusedSimpArgs false
set_option maxHeartbeats 1000000
/-- The type of the messages in a field. -/
def blwB (l : List TV) (x : TV) (f : CF CM) : TV := (l[(ownF x.t.fs f.num).ref.toNat]?).getD x
/-- Whether a message, so deep at most, is typed. -/
def keptB (l : List TV) (d : Nat) (x : TV) (m : CM) : Bool := walkB (holdB l entB) (blwB l) d x m
theorem ownF_hasF {fs : List FT} {n : Int} (h : hasF fs n = true) : ownF fs n ∈ fs ∧ (ownF fs n).num = n := by
  unfold hasF at h
  unfold ownF
  cases hq : fs.find? (fun o => o.num == n) with
  | none => rw [hq] at h; cases h
  | some o => exact ⟨List.mem_of_find?_eq_some hq, by have := List.find?_some hq; simpa using this⟩
theorem holdB_has {l : List TV} {ent : CE → Bool} {x : TV} {m : CM} (h : holdB l ent x m = true) {f : CF CM} (hf : f ∈ m.fs) : hasF x.t.fs f.num = true := by
  unfold holdB at h
  simp only [Bool.and_eq_true, List.all_eq_true] at h
  have := h.2.1 f hf
  unfold typB8 at this
  simp only [Bool.and_eq_true] at this
  exact this.1
theorem blwB_at {l : List TV} (hg : goodB l = true) {x : TV} (hx : x ∈ l) {f : CF CM} (hf : hasF x.t.fs f.num = true) : l[(ownF x.t.fs f.num).ref.toNat]? = some (blwB l x f) := by
  obtain ⟨h1, h2⟩ := ownF_hasF hf
  obtain ⟨r0, r1⟩ := good_refs hg hx h1
  unfold blwB
  rw [List.getElem?_eq_getElem r1]
  rfl
theorem blwB_in {l : List TV} (hg : goodB l = true) {x : TV} (hx : x ∈ l) {f : CF CM} (hf : hasF x.t.fs f.num = true) : blwB l x f ∈ l := List.mem_of_getElem? (blwB_at hg hx hf)
theorem cfHold (args : Array Value) (W : World) : (callFunc 91 args).run Tryz.prog W = .ok (.enter 91 args) W := cf_enter Tryz.func91 (by kernel_rfl) (by kernel_rfl) args W
theorem cfBelow (args : Array Value) (W : World) : (callFunc 92 args).run Tryz.prog W = .ok (.enter 92 args) W := cf_enter Tryz.func92 (by kernel_rfl) (by kernel_rfl) args W
theorem wkHold (l : List TV) (ta : Option Addr) (tc : Nat) (hg : goodB l = true) (hsh : ∀ x ∈ l, ShT x) (Z : Nat → Prop) : WkH Z (fun W => TbR W (.slice ta l.length tc) l) (· ∈ l) (fun _ _ _ => True) (holdB l entB) (blwB l) 91 92 #[.agg #[.slice ta l.length tc]] #[.agg #[.slice ta l.length tc]] where
  kept h hb := h.kept hb
  sh := hsh
  eh := cfHold
  eb := cfBelow
  h W x d cs m hW hx _ hm := by
    cases d with
    | zero => exact hm.elim
    | succ d => exact holdT W l ta tc hW hg x hx Z d cs m hm
  b W x d cs m f hW hx _ hh hf hfe := by
    have h1 := holdB_has hh hf
    exact belowT W l ta tc hW hg x hx Z d cs f hfe _ (ownF_hasF h1).1 (ownF_hasF h1).2 _ (blwB_at hg hx h1)
  i x d m f hx _ hh hf := blwB_in hg hx (holdB_has hh hf)
  q _ _ _ _ _ _ _ _ _ _ := trivial
theorem areKeptT (w : World) (l : List TV) (ta : Option Addr) (tc : Nat) (h : TbR w (.slice ta l.length tc) l) (hg : goodB l = true) (x : TV) (hx : x ∈ l) (Z : Nat → Prop) (d : Nat) (cs : List Value) (m : CM) (hm : MsgE w Z d cs m) : Calls Tryz.prog 52 #[.agg #[.slice ta l.length tc], .agg (cTV x).toArray, .agg cs.toArray] w fun e w' => e = .returned (.bool (keptB l d x m)) ∧ Below w.heap.size w w' := by
  have HW := hid fun W (hW : Below w.heap.size w W) => walkT (wkHold l ta tc hg (fun x hx => shT_of (h.ty x hx)) Z) d W x cs m (h.kept hW) hx trivial (hm.kept hW)
  obtain ⟨ta1, tc1, ta2, tc2, ta3, tc3, ta4, tc4, e1, e2, e3, e4⟩ := shT_of (h.ty x hx)
  have ec : cTV x = [.string (strOfNums x.t.name), .bool x.t.enum, .slice ta1 x.t.fs.length tc1, .slice ta2 x.t.os.length tc2, .slice ta3 x.t.ss.length tc3, .slice ta4 x.t.rs.length tc4] := by unfold cTV; rw [e1, e2, e3, e4]
  obtain ⟨fa, fc, ua, uc, rfl, -⟩ := msg_openD hm
  have HX : Hid (walkB (holdB l entB) (blwB l) d x m = keptB l d x m) := hid rfl
  rw [ec] at HW ⊢
  clear h hg hx hm e1 e2 e3 e4 ec
  generalize keptB l d x m = res at *
  go_enter Tryz.func52, Tryz.ntmps52
  go_wp2_with fail
  refine (HW.out _ (by exact blBy)).mono ?_
  rintro e w1 ⟨rfl, hb1⟩
  have HB1 : Hid (Below w.heap.size w w1) := hid (bl_then (by exact blBy) hb1)
  clear hb1 HW
  go_wp2
  go_ret
  exact ⟨ret_bool HX.out, HB1.out⟩
theorem typedT (w : World) (l : List TV) (ta : Option Addr) (tc : Nat) (h : TbR w (.slice ta l.length tc) l) (hk : ∀ x ∈ l, OkV x) (mx : Int) (hm0 : w.cell? ⟨0, 0, none⟩ = some (.int .i64 mx)) (k : Nat) (hkl : k < l.length) (hg : goodB l = true) (he : l[k].t.enum = false) (Z : Nat → Prop) (d : Nat) (cs : List Value) (m : CM) (hm : MsgE w Z d cs m) : Calls Tryz.prog 25 #[.agg #[.slice ta l.length tc], .int .i64 (k : Int), .agg cs.toArray] w fun e w' => e = .returned (.tuple #[.bool (keptB l d l[k] m), .int .i64 0]) ∧ Below w.heap.size w w' := by
  have HA := hid fun W (hW : Below w.heap.size w W) => msgAtOk W l ta tc (h.kept hW) hk mx (cell_below hm0 hW) k hkl hg he
  have HK := hid fun W (hW : Below w.heap.size w W) => areKeptT W l ta tc (h.kept hW) hg l[k] (List.getElem_mem hkl) Z d cs m (hm.kept hW)
  obtain ⟨ta1, tc1, ta2, tc2, ta3, tc3, ta4, tc4, e1, e2, e3, e4⟩ := shT_of (h.ty l[k] (List.getElem_mem hkl))
  have ec : cTV l[k] = [.string (strOfNums l[k].t.name), .bool false, .slice ta1 l[k].t.fs.length tc1, .slice ta2 l[k].t.os.length tc2, .slice ta3 l[k].t.ss.length tc3, .slice ta4 l[k].t.rs.length tc4] := by unfold cTV; rw [e1, e2, e3, e4, he]
  obtain ⟨fa, fc, ua, uc, rfl, -⟩ := msg_openD hm
  rw [ec] at HK
  rw [e1, e2, e3, e4] at HA
  clear h hg hm e1 e2 e3 e4 ec hm0 hk he
  generalize keptB l d l[k] m = res at *
  generalize l[k] = x at *
  go_enter Tryz.func25, Tryz.ntmps25
  go_wp2_with fail
  refine (HA.out _ (by exact blBy)).mono ?_
  rintro e w1 ⟨rfl, hb1⟩
  have HB1 : Hid (Below w.heap.size w w1) := hid (bl_then (by exact blBy) hb1)
  have Bt : Blk w1 w.heap.size 24 #[.slice ta l.length tc] := ((Blk.new _ _ _).kept (below_alloc _)).kept hb1
  have Bm : Blk w1 (w.heap.size + 1) 29 #[.slice fa m.fs.length fc, .slice ua m.us.length uc] := (Blk.newAt (by simp)).kept hb1
  have xt := Bt.cellF
  have zt := Bt.lt
  have xm := Bm.cellF
  have zm := Bm.lt
  clear hb1 HA
  go_wp2_with fail
  refine (HK.out _ (by have := HB1.out; exact blBy)).mono ?_
  rintro e w2 ⟨rfl, hb2⟩
  have HB2 : Hid (Below w.heap.size w w2) := hid (bl_then (by have := HB1.out; exact blBy) hb2)
  clear hb2 HK
  go_wp2
  exact bodyPost_ret (v := .tuple #[.bool res, .int .i64 0]) (by simp [results, Tryz.results25, go_sem]) rfl ⟨rfl, by have := HB2.out; exact blBy⟩
theorem typedNo (w : World) (l : List TV) (ta : Option Addr) (tc : Nat) (h : TbR w (.slice ta l.length tc) l) (hk : ∀ x ∈ l, OkV x) (mx : Int) (hm0 : w.cell? ⟨0, 0, none⟩ = some (.int .i64 mx)) (idx : Int) (hno : isB l idx false = false) (fa ua : Option Addr) (fn fc un uc : Nat) : Calls Tryz.prog 25 #[.agg #[.slice ta l.length tc], .int .i64 idx, .agg #[.slice fa fn fc, .slice ua un uc]] w fun e w' => e = .returned (.tuple #[.bool false, .int .i64 18]) ∧ Below w.heap.size w w' := by
  have HA := hid fun W (hW : Below w.heap.size w W) => msgAtNo W l ta tc (h.kept hW) hk mx (cell_below hm0 hW) idx hno
  clear h hm0 hk hno
  go_enter Tryz.func25, Tryz.ntmps25
  go_wp2_with fail
  refine (HA.out _ (by exact blBy)).mono ?_
  rintro e w1 ⟨rfl, hb1⟩
  have HB1 : Hid (Below w.heap.size w w1) := hid (bl_then (by exact blBy) hb1)
  clear hb1 HA
  go_wp2
  exact bodyPost_ret (v := .tuple #[.bool false, .int .i64 18]) (by simp [results, Tryz.results25, go_sem]) rfl ⟨rfl, by have := HB1.out; exact blBy⟩
theorem scalar_fit {k : Int} {v : CV CM} (h : scalarB k v = true) : vfit k v.n v.b.length v.ms.length = true := by
  unfold scalarB at h
  rw [Bool.and_eq_true] at h
  exact h.1
theorem keysB_iff {k : Int} {l : List (CV CM)} : keysB k l = true ↔ ∀ i (h : i + 1 < l.length), keyLt k l[i] l[i + 1] = true := by
  unfold keysB keyS
  rw [List.all_eq_true]
  constructor
  · intro h i hi
    have := h i (List.mem_range'_1.2 ⟨by omega, by omega⟩)
    rw [List.getElem?_eq_getElem (by omega), List.getElem?_eq_getElem hi] at this
    exact this
  · intro h i hi
    have := List.mem_range'_1.1 hi
    rw [List.getElem?_eq_getElem (by omega), List.getElem?_eq_getElem (by omega)]
    exact h i (by omega)
theorem riseM_iff {l : List (CF CM)} : riseM l = true ↔ ∀ i (h : i + 1 < l.length), l[i].num < l[i + 1].num := by
  unfold riseM
  rw [List.all_eq_true]
  constructor
  · intro h i hi
    have := h i (List.mem_range.2 (by omega))
    rw [List.getElem?_eq_getElem (by omega), List.getElem?_eq_getElem hi] at this
    exact of_decide_eq_true this
  · intro h i hi
    have := List.mem_range.1 hi
    rw [List.getElem?_eq_getElem (by omega), List.getElem?_eq_getElem (by omega)]
    exact decide_eq_true (h i (by omega))
theorem rise_lt {l : List (CF CM)} (h : riseM l = true) : ∀ (i j : Nat) (hij : i < j) (hj : j < l.length), (l[i]'(by omega)).num < l[j].num := by
  rw [riseM_iff] at h
  intro i j hij hj
  induction j with
  | zero => omega
  | succ j ih =>
    have h1 := h j hj
    by_cases e : i = j
    · subst e; exact h1
    · have := ih (by omega) (by omega); omega
theorem rise_pairs {l : List (CF CM)} (h : riseM l = true) : l.Pairwise (fun x y => x.num < y.num) := by
  rw [List.pairwise_iff_getElem]
  intro i j hi hj hij
  exact rise_lt h i j hij hj
theorem kept_all {l : List TV} {d : Nat} {x : TV} {m : CM} (h : keptB l (d + 1) x m = true) : holdB l entB x m = true ∧ ∀ f ∈ m.fs, ∀ z ∈ allM f, keptB l d (blwB l x f) z = true := by
  unfold keptB walkB at h
  simp only [Bool.and_eq_true, List.all_eq_true] at h
  exact ⟨h.1, fun f hf z hz => h.2 f hf z hz⟩
set_option maxHeartbeats 2000000
theorem rise_of {l : List (CF CM)} (h : l.Pairwise (fun x y => x.num < y.num)) : riseM l = true := riseM_iff.2 fun i hi => List.pairwise_iff_getElem.1 h i (i + 1) (by omega) hi (by omega)
def fOrd (x y : CF CM) : Int := cmpI x.num y.num
theorem fOrd_lt {x y : CF CM} : fOrd x y < 0 ↔ x.num < y.num := by unfold fOrd cmpI; split <;> (try split) <;> simp <;> omega
theorem fOrd_gt {x y : CF CM} : 0 < fOrd x y ↔ y.num < x.num := by unfold fOrd cmpI; split <;> (try split) <;> simp <;> omega
theorem fOrd_eq {x y : CF CM} : fOrd x y = 0 ↔ x.num = y.num := by unfold fOrd cmpI; split <;> (try split) <;> simp <;> omega
theorem fOrdO (In : CF CM → Prop) : Ord In fOrd where
  swap _ _ := by rw [fOrd_lt, fOrd_gt]
  lt _ _ _ h g := by rw [fOrd_lt] at *; omega
  le _ _ _ h g := by rw [fOrd_eq] at h; rw [fOrd_lt] at *; omega
  el _ _ _ h g := by rw [fOrd_eq] at g; rw [fOrd_lt] at *; omega
theorem rise_asc {l : List (CF CM)} : riseM l = true ↔ Asc fOrd l := by
  constructor
  · intro h
    exact (rise_pairs h).imp (fun h => fOrd_lt.2 h)
  · intro h
    exact rise_of (h.imp (fun h => fOrd_lt.1 h))
/-- A member of a oneof that another field list has a member of, is left out. -/
def memB (fs : List FT) (w : Int) (p : CF CM) : Bool := (ownF fs p.num).lab == 4 && (ownF fs p.num).one == w
def rivB (fs : List FT) (os : List (CF CM)) (o : CF CM) : Bool := !((ownF fs o.num).lab == 4 && os.any (memB fs (ownF fs o.num).one))
def wM (f : CF CM) : CM := match f.vs with | v :: _ => (match v.ms with | m :: _ => m | [] => CM.mk [] []) | [] => CM.mk [] []
def prs (f : CF CM) : List (CV CM × CV CM) := f.ks.zip f.vs
def kOrd (k : Int) (p q : CV CM × CV CM) : Int := (cmpE k p.1.n q.1.n p.1.b q.1.b p.1.ms.length q.1.ms.length).1
def mapM (o : FT) (a b : CF CM) : CF CM := ⟨o.num, (uni (kOrd o.key) (fun _ q => q) (prs a) (prs b)).map Prod.fst, (uni (kOrd o.key) (fun _ q => q) (prs a) (prs b)).map Prod.snd⟩
def bothF (l : List TV) (mg : TV → CM → CM → CM) (x : TV) (a b : CF CM) : CF CM :=
  if (ownF x.t.fs a.num).lab = 1 ∧ (ownF x.t.fs a.num).kind = 17 then ⟨(ownF x.t.fs a.num).num, [], [⟨0, [], [mg (blwB l x a) (wM a) (wM b)]⟩]⟩
  else if (ownF x.t.fs a.num).lab = 2 ∨ (ownF x.t.fs a.num).lab = 3 then ⟨(ownF x.t.fs a.num).num, [], a.vs ++ b.vs⟩
  else if (ownF x.t.fs a.num).lab = 5 then mapM (ownF x.t.fs a.num) a b
  else b
def mergM (l : List TV) : Nat → TV → CM → CM → CM
  | 0, _, _, b => b
  | d + 1, x, a, b => CM.mk (uni fOrd (bothF l (mergM l d) x) (a.fs.filter (rivB x.t.fs b.fs)) b.fs) (a.us ++ b.us)
theorem both_num {l : List TV} {mg : TV → CM → CM → CM} {x : TV} {a b : CF CM} (h : hasF x.t.fs a.num = true) (e : a.num = b.num) : (bothF l mg x a b).num = a.num := by
  have h2 := (ownF_hasF h).2
  unfold bothF mapM
  split
  · exact h2
  · split
    · exact h2
    · split
      · exact h2
      · exact e.symm
theorem bothB (l : List TV) (mg : TV → CM → CM → CM) (x : TV) : Bth (fun f => hasF x.t.fs f.num = true) fOrd (bothF l mg x) where
  mem hx hy e := by rw [both_num hx (fOrd_eq.1 e)]; exact hx
  l hx hy hz e := by unfold fOrd; rw [both_num hx (fOrd_eq.1 e)]
  r hx hy hz e := by unfold fOrd; rw [both_num hx (fOrd_eq.1 e)]
/-- Keys in order. -/
def KIn (k : Int) (p : CV CM × CV CM) : Prop := scalarB k p.1 = true
theorem kOrd_eq {k : Int} {p q : CV CM × CV CM} (hp : KIn k p) (hq : KIn k q) : kOrd k p q = if kkey k = false then 0 else cmpV k p.1.n q.1.n p.1.b q.1.b := by
  unfold kOrd cmpE
  split
  · rfl
  · rw [if_neg (by rw [scalar_fit hp, scalar_fit hq]; simp)]
theorem cmpV_neg (k n1 n2 : Int) (xs ys : List Int) : cmpV k n2 n1 ys xs = - cmpV k n1 n2 xs ys := by
  unfold cmpV
  split
  · exact cmpX_neg xs ys
  · split
    · exact cmpI_neg _ _
    · exact cmpI_neg _ _
theorem cmpV_trans (k n1 n2 n3 : Int) (xs ys zs : List Int) (h : cmpV k n1 n2 xs ys ≤ 0) (g : cmpV k n2 n3 ys zs ≤ 0) : cmpV k n1 n3 xs zs ≤ 0 ∧ (cmpV k n1 n3 xs zs = 0 → cmpV k n1 n2 xs ys = 0 ∧ cmpV k n2 n3 ys zs = 0) := by
  unfold cmpV at *
  split at h
  · rename_i e
    simp only [if_pos e] at g ⊢
    exact cmpX_trans _ _ _ h g
  · rename_i e
    simp only [if_neg e] at g ⊢
    split at h
    · rename_i e2
      simp only [if_pos e2] at g ⊢
      exact cmpI_trans _ _ _ h g
    · rename_i e2
      simp only [if_neg e2] at g ⊢
      exact cmpI_trans _ _ _ h g
theorem kOrdO (k : Int) : Ord (KIn k) (kOrd k) where
  swap hx hy := by
    rw [kOrd_eq hx hy, kOrd_eq hy hx]
    split
    · simp
    · rename_i x y _
      have := cmpV_neg k x.1.n y.1.n x.1.b y.1.b
      omega
  lt {x y z} hx hy hz h g := by
    rw [kOrd_eq hx hy] at h
    rw [kOrd_eq hy hz] at g
    rw [kOrd_eq hx hz]
    split at h
    · omega
    · rename_i e
      rw [if_neg e] at g ⊢
      have := cmpV_trans k x.1.n y.1.n z.1.n x.1.b y.1.b z.1.b (by omega) (by omega)
      omega
  le {x y z} hx hy hz h g := by
    rw [kOrd_eq hx hy] at h
    rw [kOrd_eq hy hz] at g
    rw [kOrd_eq hx hz]
    split at h
    · rename_i e
      rw [if_pos e] at g ⊢
      exact g
    · rename_i e
      rw [if_neg e] at g ⊢
      have := cmpV_trans k x.1.n y.1.n z.1.n x.1.b y.1.b z.1.b (by omega) (by omega)
      omega
  el {x y z} hx hy hz h g := by
    rw [kOrd_eq hx hy] at h
    rw [kOrd_eq hy hz] at g
    rw [kOrd_eq hx hz]
    split at h
    · omega
    · rename_i e
      rw [if_neg e] at g ⊢
      have := cmpV_trans k x.1.n y.1.n z.1.n x.1.b y.1.b z.1.b (by omega) (by omega)
      omega
theorem Ord.l0 {α : Type} {In : α → Prop} {ord : α → α → Int} (O : Ord In ord) {x y z : α} (hx : In x) (hy : In y) (hz : In z) (e : ord x y = 0) : (ord y z < 0 ↔ ord x z < 0) ∧ (ord y z = 0 ↔ ord x z = 0) := by
  have e' := (O.swap0 hx hy).1 e
  exact ⟨⟨fun h => O.le hx hy hz e h, fun h => O.le hy hx hz e' h⟩, ⟨fun h => O.ee hx hy hz e h, fun h => O.ee hy hx hz e' h⟩⟩
/-- An append whose run is known, as one step of a region that draws its order. -/
theorem step_append_ran {P : Program} {ops : Array Oper} {o : Oper} {a : Act} {w : World} {K : Act → World → Prop} {Q : Exit → Act → World → Prop} {E : Prop}
    (hg : o.guard = none) (s x : Operand) (t ty : TypeId) (hop : o.op = Op.call { callee := Callee.builtin Builtin.append, args := #[s, x], argTypes := #[t, t] }) (hty : o.type = ty)
    (v xv v' : Value) (w' : World) (hs : a.eval s = v) (hx : a.eval x = xv) (hr : (Builtin.append_ #[t, t] ty #[v, xv]).run P w = .ok v' w') (hK : K (a.put o.dst v') w') :
    if Region.wanted o (yielded ops a.tmps) = true then Oper.wp P o a w K Q else E := by
  have hw : Region.wanted o (yielded ops a.tmps) = true := by simp [Region.wanted, hg]
  rw [if_pos hw]
  subst hty
  unfold Oper.wp
  simp [execOp, hop, resolve, invoke, builtin, hs, hx, hr, Result.andThen]
  exact hK
set_option maxHeartbeats 4000000
def lnV : Value → Nat
  | .slice _ n _ => n
  | _ => 0
theorem RowM.tail {α : Type} {w : World} {Z : Nat → Prop} {k : Nat} {E : List Value → α → Prop} {b o n c : Nat} {x : α} {xs : List α} (h : RowM w Z k E (.slice (some ⟨b, o, none⟩) n c) (x :: xs)) : RowM w Z k E (.slice (some ⟨b, o + k, none⟩) xs.length (c - 1)) xs := by
  obtain ⟨ts, ⟨a', c', e, hv⟩, hl, hn, he⟩ := h
  cases e
  cases ts with
  | nil => simp at hl
  | cons t ts =>
    have hlen := hv.length
    have hle := hv.le
    have hmx := hv.max
    simp at hl hlen hle hn
    refine ⟨ts, ⟨_, _, rfl, by have := t.2; simp at hlen ⊢; rw [Nat.succ_mul] at hlen; omega, by omega, by omega, ?_⟩, hl, by omega, fun i u y hu hy => he (i + 1) u y (by simpa using hu) (by simpa using hy)⟩
    rcases hv.cells with ⟨q, _⟩ | ⟨b2, o2, e3, hz, hc⟩
    · simp at q
    · cases e3
      refine .inr ⟨b, o + k, rfl, hz, fun j u hu => ?_⟩
      have := hc (k + j) u (by rw [List.flatMap_cons, List.getElem?_append_right (by rw [t.2]; omega), t.2]; simpa using hu)
      rw [Nat.add_assoc]
      exact this
theorem RowM.tl {α : Type} {w : World} {Z : Nat → Prop} {k : Nat} {E : List Value → α → Prop} {b o n c : Nat} {x : α} {xs : List α} (h : RowM w Z k E (.slice (some ⟨b, o, none⟩) n c) (x :: xs)) : RowM w Z k E (.slice (if c = 1 then some ⟨b, o, none⟩ else some ⟨b, o + k, none⟩) (n - 1) (c - 1)) xs := by
  have hc := h
  obtain ⟨ts, ⟨a', c', e, hv⟩, -⟩ := hc
  cases e
  have hle := hv.le
  simp at hle
  rw [show (x :: xs).length - 1 = xs.length by simp]
  by_cases q : c = 1
  · rw [if_pos q]
    obtain rfl : xs = [] := List.eq_nil_of_length_eq_zero (by omega)
    subst q
    exact ⟨[], ⟨_, _, rfl, by simp, by simp, by simp, .inl ⟨rfl, fun h => by cases h⟩⟩, rfl, by simp, fun i t x ht => by simp at ht⟩
  · rw [if_neg q]
    exact RowM.tail h
theorem zofA_new {α : Type} {w w2 : World} {Z : Nat → Prop} {base : Nat} {t : TypeId} {k : Nat} {E : World → (Nat → Prop) → List Value → α → Prop} (F : Fam k E) {v : Value} {xs : List α} (h : OwnA w base (fun b => Z b ∨ base ≤ b) t k E v xs) (hb : base ≤ w.heap.size) {cs : List Value} {x : α} (hx : E w2 (fun b => (Z b ∧ b < base) ∨ w.heap.size ≤ b) cs x) : E w2 (ZofA w2 (fun b => Z b ∨ base ≤ b) v) cs x := by
  refine F.go (F.old hx) (Keep.refl (fun _ => True) w2) (fun _ _ => trivial) (fun b hz => ⟨hz.1.elim (fun q => Or.inl q.1) (fun q => Or.inr (Nat.le_trans hb q)), hz.2, fun e => ?_⟩)
  have := h.own e
  rcases hz.1 with q | q
  · exact absurd q.2 (Nat.not_lt.2 this.1)
  · exact absurd this.2 (Nat.not_lt.2 q)
theorem tailRunF (b o n c : Nat) (h1 : 1 ≤ n) (W : World) : (Instr.sliceAt 26 (.slice (some ⟨b, o, none⟩) n c) (some (.int .i64 1)) none none).run Tryz.prog W = .ok (.slice (if c = 1 then some ⟨b, o, none⟩ else some ⟨b, o + 3, none⟩) (n - 1) (c - 1)) W := by
  have e : Tryz.prog.underlying 26 = some (.slice 33) := Tryz.underlying26
  have k1 : (1 : Int) ≤ (n : Int) := by omega
  simp [Instr.sliceAt, Instr.slice, Instr.sliceBounds, Instr.sliceBound, go_sem, e, k1]
theorem ordT (w : World) (Z : Nat → Prop) (d : Nat) (cs ds : List Value) (x y : CF CM) (h : FmF d w Z cs x) (g : FmF d w Z ds y) : Calls Tryz.prog 68 #[.agg cs.toArray, .agg ds.toArray] w fun e w' => e = .returned (.int .i64 (fOrd x y)) ∧ Below w.heap.size w w' := by
  obtain ⟨ka, kc, va, vc, rfl, -⟩ := fld_open h
  obtain ⟨kb, kd, vb, vd, rfl, -⟩ := fld_open g
  clear h g
  go_enter Tryz.func68, Tryz.ntmps68
  go_wp2_with (go_at_call 69; refine (Tryz.cmp_Compare_int _ _ _).mono ?_; rintro e w1 ⟨rfl, rfl⟩)
  go_ret
  refine ⟨?_, by exact blBy⟩
  show Ending.returned (.int .i64 (Lib.compareInt x.num y.num)) = _
  have : Lib.compareInt x.num y.num = fOrd x y := by
    unfold Lib.compareInt fOrd cmpI
    split
    · rfl
    · split <;> rfl
  rw [this]
theorem unionF (d : Nat) (w : World) (Z : Nat → Prop) (xs ys : List (CF CM)) (a b : Option Addr) (ac bc : Nat) (h1 : FlsR w Z d (.slice a xs.length ac) xs) (h2 : FlsR w Z d (.slice b ys.length bc) ys) (caps : Array Value) (bt : CF CM → CF CM → CF CM) (hn : xs.length + ys.length ≤ 4000000)
    (hf : ∀ (W : World), Below w.heap.size w W → ∀ (cs ds : List Value) (x y : CF CM), x ∈ xs → y ∈ ys → fOrd x y = 0 → FmF d W (fun b => Z b ∧ b < w.heap.size) cs x → FmF d W (fun b => Z b ∧ b < w.heap.size) ds y → Calls Tryz.prog 70 (#[.agg cs.toArray, .agg ds.toArray] ++ caps) W fun e w' => ∃ es : List Value, e = .returned (.agg es.toArray) ∧ FmF d w' (fun b => (Z b ∧ b < w.heap.size) ∨ W.heap.size ≤ b) es (bt x y) ∧ Below W.heap.size W w') :
    Calls Tryz.prog 72 #[.slice a xs.length ac, .slice b ys.length bc, .func (.func 68) #[] #[], .func (.func 70) #[] caps] w fun e w' => ∃ a' c', e = .returned (.slice a' (uni fOrd bt xs ys).length c') ∧ FlsR w' (fun b => Z b ∨ w.heap.size ≤ b) d (.slice a' (uni fOrd bt xs ys).length c') (uni fOrd bt xs ys) ∧ Below w.heap.size w w' := by
  have H1 := hid h1
  have H2 := hid h2
  have HF := hid hf
  have HLN : Hid (xs.length + ys.length ≤ 4000000) := hid hn
  clear h1 h2 hf
  go_enter Tryz.func72, Tryz.ntmps72
  go_wp2
  go_loopw [0, 1, 9] (fun s0 s1 s9 wr => ∃ (l r out : List (CF CM)) (n1 n2 n : Nat) (aa ab oa : Option Addr) (ca cb oc : Nat), s0 = .slice aa n1 ca ∧ s1 = .slice ab n2 cb ∧ s9 = .slice oa n oc ∧ Hid (l.length = n1 ∧ r.length = n2 ∧ out.length = n) ∧ n + n1 + n2 ≤ 4000000 ∧ Hid (FlsR w Z d (.slice aa n1 ca) l ∧ FlsR w Z d (.slice ab n2 cb) r) ∧ Hid ((∀ x ∈ l, x ∈ xs) ∧ (∀ y ∈ r, y ∈ ys) ∧ out ++ uni fOrd bt l r = uni fOrd bt xs ys) ∧ Hid (OwnA wr w.heap.size (fun b => Z b ∨ w.heap.size ≤ b) 33 3 (FmF d) (.slice oa n oc) out) ∧ Hid (Below w.heap.size w wr)) (fun s0 s1 s9 wr => lnV s0 + lnV s1)
  case atStart => exact ⟨xs, ys, [], xs.length, ys.length, 0, a, b, none, ac, bc, 0, rfl, rfl, rfl, hid ⟨rfl, rfl, rfl⟩, by omega, hid ⟨H1.out, H2.out⟩, hid ⟨fun _ h => h, fun _ h => h, rfl⟩, hid (OwnA.nil _ _ _ _ _ _), hid (Below.refl _ _)⟩
  case round =>
    clear H1 H2
    obtain ⟨l, r, out, n1, n2, n, aa, ab, oa, ca, cb, oc, rfl, rfl, rfl, HN, hn4, HR, HQ, HO, HB⟩ := hrel
    by_cases hz1 : n1 = 0
    · have k1 : ((0 : Int) < (n1 : Int)) = False := eq_false (by omega)
      have k1' : (0 < n1) = False := eq_false (by omega)
      have HU : Hid (out ++ (l ++ r) = uni fOrd bt xs ys) := hid (by obtain rfl : l = [] := List.eq_nil_of_length_eq_zero (by rw [HN.out.1]; exact hz1); rw [← HQ.out.2.2, uni_nil]; rfl)
      clear hz1
      go_wp2_with fail
      obtain ⟨rfl, rfl, rfl⟩ := HN.out
      have hrw : rwL [(oa, oc, out), (aa, ca, l), (ab, cb, r)] = uni fOrd bt xs ys := by rw [← HU.out]; simp [rwL]
      refine (concatField d _ (fun b => Z b ∨ w.heap.size ≤ b) [(oa, oc, out), (aa, ca, l), (ab, cb, r)] wr.heap.size (Blk.new _ _ _) ?_ (by rw [hrw, ← HU.out]; simp; omega) (by simp)).mono ?_
      · intro q hq
        simp only [List.mem_cons, List.not_mem_nil, or_false] at hq
        rcases hq with rfl | rfl | rfl
        · exact FlsR.go (HO.out.row (famF d) (by omega)) (keepT (below_alloc _)) (fun _ _ => trivial) (fun b hz => hz.elim id Or.inr)
        · exact FlsR.go HR.out.1 (keepT (by have := HB.out; exact blBy)) (fun _ _ => trivial) (fun b hz => Or.inl hz)
        · exact FlsR.go HR.out.2 (keepT (by have := HB.out; exact blBy)) (fun _ _ => trivial) (fun b hz => Or.inl hz)
      rintro e w2 ⟨a2, c2, rfl, ho, hbx⟩
      rw [hrw] at ho ⊢
      have HO2 := hid ho
      have HB2 : Hid (Below w.heap.size w w2) := hid (bl_then (by have := HB.out; exact blBy) hbx)
      have HL2 : Hid ((uni fOrd bt xs ys).length ≤ 4000000) := hid (by rw [← HU.out]; simp; omega)
      have hsz := HB.out.size
      clear ho hbx hrw HN HO HR HQ
      go_wp2
      go_ret
      exact ⟨a2, c2, rfl, FlsR.go (HO2.out.row (famF d) HL2.out) (Keep.refl (fun _ => True) w2) (fun _ _ => trivial) (fun b hz => hz.elim id (fun h => Or.inr (Nat.le_trans (Nat.le_trans hsz (Nat.le_succ _)) (by simpa using h)))), HB2.out⟩
    · have k1 : (0 : Int) < (n1 : Int) := by omega
      by_cases hz2 : n2 = 0
      · have k2 : ((0 : Int) < (n2 : Int)) = False := eq_false (by omega)
        have k2' : (0 < n2) = False := eq_false (by omega)
        have HU : Hid (out ++ (l ++ r) = uni fOrd bt xs ys) := hid (by obtain rfl : r = [] := List.eq_nil_of_length_eq_zero (by rw [HN.out.2.1]; exact hz2); rw [← HQ.out.2.2, uni_nilR, List.append_nil])
        clear hz2
        go_wp2_with fail
        obtain ⟨rfl, rfl, rfl⟩ := HN.out
        have hrw : rwL [(oa, oc, out), (aa, ca, l), (ab, cb, r)] = uni fOrd bt xs ys := by rw [← HU.out]; simp [rwL]
        refine (concatField d _ (fun b => Z b ∨ w.heap.size ≤ b) [(oa, oc, out), (aa, ca, l), (ab, cb, r)] wr.heap.size (Blk.new _ _ _) ?_ (by rw [hrw, ← HU.out]; simp; omega) (by simp)).mono ?_
        · intro q hq
          simp only [List.mem_cons, List.not_mem_nil, or_false] at hq
          rcases hq with rfl | rfl | rfl
          · exact FlsR.go (HO.out.row (famF d) (by omega)) (keepT (below_alloc _)) (fun _ _ => trivial) (fun b hz => hz.elim id Or.inr)
          · exact FlsR.go HR.out.1 (keepT (by have := HB.out; exact blBy)) (fun _ _ => trivial) (fun b hz => Or.inl hz)
          · exact FlsR.go HR.out.2 (keepT (by have := HB.out; exact blBy)) (fun _ _ => trivial) (fun b hz => Or.inl hz)
        rintro e w2 ⟨a2, c2, rfl, ho, hbx⟩
        rw [hrw] at ho ⊢
        have HO2 := hid ho
        have HB2 : Hid (Below w.heap.size w w2) := hid (bl_then (by have := HB.out; exact blBy) hbx)
        have HL2 : Hid ((uni fOrd bt xs ys).length ≤ 4000000) := hid (by rw [← HU.out]; simp; omega)
        have hsz := HB.out.size
        clear ho hbx hrw HN HO HR HQ
        go_wp2
        go_ret
        exact ⟨a2, c2, rfl, FlsR.go (HO2.out.row (famF d) HL2.out) (Keep.refl (fun _ => True) w2) (fun _ _ => trivial) (fun b hz => hz.elim id (fun h => Or.inr (Nat.le_trans (Nat.le_trans hsz (Nat.le_succ _)) (by simpa using h)))), HB2.out⟩
      · have k2 : (0 : Int) < (n2 : Int) := by omega
        obtain ⟨x, l, rfl⟩ : ∃ x l', l = x :: l' := List.exists_cons_of_length_pos (by rw [HN.out.1]; omega)
        obtain ⟨y, r, rfl⟩ : ∃ y r', r = y :: r' := List.exists_cons_of_length_pos (by rw [HN.out.2.1]; omega)
        obtain ⟨b1, o1, ka, kc, va, vc, rfl, -, hb1, c0, c1, c2, he⟩ := fls_at HR.out.1 (i := 0) (by simp)
        obtain ⟨b2, o2, kb, kd, vb, vd, rfl, -, hb2, d0, d1, d2, hf⟩ := fls_at HR.out.2 (i := 0) (by simp)
        simp only [Nat.zero_mul, Nat.add_zero, List.getElem_cons_zero] at c0 c1 c2 d0 d1 d2 he hf
        have HE := hid he
        have HG := hid hf
        have HEO := hid ((famF d).old he)
        have HGO := hid ((famF d).old hf)
        have HEY : Hid (FmF d w (fun b => Z b ∨ w.heap.size ≤ b) [.int .i64 x.num, .slice ka x.ks.length kc, .slice va x.vs.length vc] x) := hid (Fam.go (famF d) he (Keep.refl (fun _ => True) w) (fun _ _ => trivial) (fun _ h => Or.inl h))
        have HGY : Hid (FmF d w (fun b => Z b ∨ w.heap.size ≤ b) [.int .i64 y.num, .slice kb y.ks.length kd, .slice vb y.vs.length vd] y) := hid (Fam.go (famF d) hf (Keep.refl (fun _ => True) w) (fun _ _ => trivial) (fun _ h => Or.inl h))
        have C0 := hid c0
        have C1 := hid c1
        have C2 := hid c2
        have D0 := hid d0
        have D1 := hid d1
        have D2 := hid d2
        replace c0 := cell_below c0 HB.out
        replace c1 := cell_below c1 HB.out
        replace c2 := cell_below c2 HB.out
        replace d0 := cell_below d0 HB.out
        replace d1 := cell_below d1 HB.out
        replace d2 := cell_below d2 HB.out
        have k5 : (1 : Int) ≤ (n1 : Int) := by omega
        have k6 : (1 : Int) ≤ (n2 : Int) := by omega
        have k5' : 1 ≤ n1 := by omega
        have k6' : 1 ≤ n2 := by omega
        have m1 : (n1 : Int) ≤ 9223372036854775807 := by omega
        have m2 : (n2 : Int) ≤ 9223372036854775807 := by omega
        clear he hf
        go_wp2_with fail
        go_region_held3 (fun W => W.cell? ⟨b1, o1, none⟩ = some (.int .i64 x.num) ∧ W.cell? ⟨b1, o1 + 1, none⟩ = some (.slice ka x.ks.length kc) ∧ W.cell? ⟨b1, o1 + 2, none⟩ = some (.slice va x.vs.length vc) ∧ W.cell? ⟨b2, o2, none⟩ = some (.int .i64 y.num) ∧ W.cell? ⟨b2, o2 + 1, none⟩ = some (.slice kb y.ks.length kd) ∧ W.cell? ⟨b2, o2 + 2, none⟩ = some (.slice vb y.vs.length vd)) (exact ⟨c0, c1, c2, d0, d1, d2⟩) (first | (go_at_call 68; refine (ordT _ Z d _ _ x y (HE.out.kept (by have := HB.out; exact blBy)) (HG.out.kept (by have := HB.out; exact blBy))).mono ?_; rintro e w1 ⟨rfl, hbx⟩; replace c0 := cell_below c0 (below_trans (by first | exact Below.refl _ _ | exact below_drew1 _ | exact below_drewN _ _) hbx); replace c1 := cell_below c1 (below_trans (by first | exact Below.refl _ _ | exact below_drew1 _ | exact below_drewN _ _) hbx); replace c2 := cell_below c2 (below_trans (by first | exact Below.refl _ _ | exact below_drew1 _ | exact below_drewN _ _) hbx); replace d0 := cell_below d0 (below_trans (by first | exact Below.refl _ _ | exact below_drew1 _ | exact below_drewN _ _) hbx); replace d1 := cell_below d1 (below_trans (by first | exact Below.refl _ _ | exact below_drew1 _ | exact below_drewN _ _) hbx); replace d2 := cell_below d2 (below_trans (by first | exact Below.refl _ _ | exact below_drew1 _ | exact below_drewN _ _) hbx); replace HO := hid (HO.out.kept (famF d) (below_trans (by first | exact Below.refl _ _ | exact below_drew1 _ | exact below_drewN _ _) hbx)); replace HB := hid (bl_then HB.out (below_trans (by first | exact Below.refl _ _ | exact below_drew1 _ | exact below_drewN _ _) hbx)); clear hbx))
        rcases Int.lt_trichotomy (fOrd x y) 0 with hq | hq | hq
        · have k3 : (fOrd x y < 0) = True := eq_true hq
          have HOd := hid (HO.out.kept (famF d) (below_drew1 w1))
          have HZ : Hid (FmF d w1.drew (ZofA w1.drew (fun b => Z b ∨ w.heap.size ≤ b) (.slice oa n oc)) [.int .i64 x.num, .slice ka x.ks.length kc, .slice va x.vs.length vc] x) := hid (zofA_old (famF d) HOd.out HEY.out (bl_then HB.out (below_drew1 _)))
          obtain ⟨la, lc, x1, HRUN, HO2, HGr⟩ := OwnA.push (famF d) 33 26 56 (.agg #[.int .i64 0, .slice none 0 0, .slice none 0 0]) Tryz.underlying26 Tryz.infoF rfl (by decide) (by decide) HOd.out HZ.out HB.out.size (by rw [HN.out.2.2]; omega)
          rw [HN.out.2.2] at HRUN HO2 HGr
          have HBd := hid (bl_then HB.out (below_drew1 _))
          have HB2 := hid (HBd.out.trans (HOd.out.bel HGr.out (Nat.le_refl _) HBd.out.size))
          go_wp2_with fail
          go_region_held3 (fun W => W.cell? ⟨b1, o1, none⟩ = some (.int .i64 x.num) ∧ W.cell? ⟨b1, o1 + 1, none⟩ = some (.slice ka x.ks.length kc) ∧ W.cell? ⟨b1, o1 + 2, none⟩ = some (.slice va x.vs.length vc)) (first | exact ⟨c0, c1, c2⟩ | exact ⟨cell_below C0.out HB2.out, cell_below C1.out HB2.out, cell_below C2.out HB2.out⟩ | exact ⟨cell_below c0 (by exact blBy), cell_below c1 (by exact blBy), cell_below c2 (by exact blBy)⟩) (first | (refine step_append_ran rfl _ _ 26 26 rfl rfl _ _ (.slice la (n + 1) lc) x1 rfl rfl HRUN.out ?_))
          go_wp2
          exact ⟨⟨l, y :: r, out ++ [x], n1 - 1, n2, n + 1, _, _, la, ca - 1, cb, lc, rfl, rfl, rfl, hid ⟨by have := HN.out.1; simp at this; omega, HN.out.2.1, by rw [List.length_append, HN.out.2.2]; rfl⟩, by omega, hid ⟨RowM.tl HR.out.1, HR.out.2⟩, hid ⟨fun z hz => HQ.out.1 z (List.mem_cons_of_mem _ hz), HQ.out.2.1, by rw [← HQ.out.2.2, uni_lt hq]; simp⟩, HO2, HB2⟩, by simp [lnV]; omega⟩
        · have k3 : (fOrd x y < 0) = False := eq_false (by omega)
          have k4 : (0 < fOrd x y) = False := eq_false (by omega)
          obtain ⟨ta, T1, HR1⟩ : ∃ ta, (∀ W, (Instr.sliceAt 26 (.slice (some ⟨b1, o1, none⟩) n1 ca) (some (.int .i64 1)) none none).run Tryz.prog W = .ok (.slice ta (n1 - 1) (ca - 1)) W) ∧ Hid (FlsR w Z d (.slice ta (n1 - 1) (ca - 1)) l) := ⟨_, tailRunF b1 o1 n1 ca k5', hid (RowM.tl HR.out.1)⟩
          obtain ⟨tb, T2, HR2⟩ : ∃ tb, (∀ W, (Instr.sliceAt 26 (.slice (some ⟨b2, o2, none⟩) n2 cb) (some (.int .i64 1)) none none).run Tryz.prog W = .ok (.slice tb (n2 - 1) (cb - 1)) W) ∧ Hid (FlsR w Z d (.slice tb (n2 - 1) (cb - 1)) r) := ⟨_, tailRunF b2 o2 n2 cb k6', hid (RowM.tl HR.out.2)⟩
          go_wp2_with fail
          go_region_held3 (fun W => W.cell? ⟨b1, o1, none⟩ = some (.int .i64 x.num) ∧ W.cell? ⟨b1, o1 + 1, none⟩ = some (.slice ka x.ks.length kc) ∧ W.cell? ⟨b1, o1 + 2, none⟩ = some (.slice va x.vs.length vc) ∧ W.cell? ⟨b2, o2, none⟩ = some (.int .i64 y.num) ∧ W.cell? ⟨b2, o2 + 1, none⟩ = some (.slice kb y.ks.length kd) ∧ W.cell? ⟨b2, o2 + 2, none⟩ = some (.slice vb y.vs.length vd)) (first | exact ⟨c0, c1, c2, d0, d1, d2⟩ | exact ⟨cell_below C0.out HB2.out, cell_below C1.out HB2.out, cell_below C2.out HB2.out, cell_below D0.out HB2.out, cell_below D1.out HB2.out, cell_below D2.out HB2.out⟩ | exact ⟨cell_below c0 (by exact blBy), cell_below c1 (by exact blBy), cell_below c2 (by exact blBy), cell_below d0 (by exact blBy), cell_below d1 (by exact blBy), cell_below d2 (by exact blBy)⟩) (first | (refine step_append_ran rfl _ _ 26 26 rfl rfl _ _ (.slice la (n + 1) lc) x1 rfl rfl HRUN.out ?_) | (go_at_call 70; refine (HF.out _ (by have := HB.out; exact blBy) _ _ x y (HQ.out.1 x (List.mem_cons_self ..)) (HQ.out.2.1 y (List.mem_cons_self ..)) hq (HEO.out.kept (by have := HB.out; exact blBy)) (HGO.out.kept (by have := HB.out; exact blBy))).mono ?_; rintro e w2 ⟨es, rfl, hes, hbx⟩; have HZ := hid (zofA_new (famF d) (HO.out.kept (famF d) (by first | exact Below.refl _ _ | exact below_drew1 _ | exact below_drewN _ _)) HB.out.size hes); replace c0 := cell_below c0 (below_trans (by first | exact Below.refl _ _ | exact below_drew1 _ | exact below_drewN _ _) hbx); replace c1 := cell_below c1 (below_trans (by first | exact Below.refl _ _ | exact below_drew1 _ | exact below_drewN _ _) hbx); replace c2 := cell_below c2 (below_trans (by first | exact Below.refl _ _ | exact below_drew1 _ | exact below_drewN _ _) hbx); replace d0 := cell_below d0 (below_trans (by first | exact Below.refl _ _ | exact below_drew1 _ | exact below_drewN _ _) hbx); replace d1 := cell_below d1 (below_trans (by first | exact Below.refl _ _ | exact below_drew1 _ | exact below_drewN _ _) hbx); replace d2 := cell_below d2 (below_trans (by first | exact Below.refl _ _ | exact below_drew1 _ | exact below_drewN _ _) hbx); replace HO := hid (HO.out.kept (famF d) (below_trans (by first | exact Below.refl _ _ | exact below_drew1 _ | exact below_drewN _ _) hbx)); replace HB := hid (bl_then HB.out (below_trans (by first | exact Below.refl _ _ | exact below_drew1 _ | exact below_drewN _ _) hbx)); clear hes hbx; obtain ⟨ka2, kc2, va2, vc2, rfl, -⟩ := fld_open HZ.out; obtain ⟨la, lc, x1, HRUN, HO2, HGr⟩ := OwnA.push (famF d) 33 26 56 (.agg #[.int .i64 0, .slice none 0 0, .slice none 0 0]) Tryz.underlying26 Tryz.infoF rfl (by decide) (by decide) HO.out HZ.out HB.out.size (by rw [HN.out.2.2]; omega); rw [HN.out.2.2] at HRUN HO2 HGr; have HB2 := hid (HB.out.trans (HO.out.bel HGr.out (Nat.le_refl _) HB.out.size))))
          go_wp2
          exact ⟨⟨l, r, out ++ [bt x y], n1 - 1, n2 - 1, n + 1, _, _, la, ca - 1, cb - 1, lc, rfl, rfl, rfl, hid ⟨by have := HN.out.1; simp at this; omega, by have := HN.out.2.1; simp at this; omega, by rw [List.length_append, HN.out.2.2]; rfl⟩, by omega, hid ⟨HR1.out, HR2.out⟩, hid ⟨fun z hz => HQ.out.1 z (List.mem_cons_of_mem _ hz), fun z hz => HQ.out.2.1 z (List.mem_cons_of_mem _ hz), by rw [← HQ.out.2.2, uni_eq hq]; simp⟩, HO2, HB2⟩, by simp [lnV]; omega⟩
        · have k3 : (fOrd x y < 0) = False := eq_false (by omega)
          have k4 : (0 < fOrd x y) = True := eq_true hq
          have HOd := hid (HO.out.kept (famF d) (below_drew1 w1))
          have HZ : Hid (FmF d w1.drew (ZofA w1.drew (fun b => Z b ∨ w.heap.size ≤ b) (.slice oa n oc)) [.int .i64 y.num, .slice kb y.ks.length kd, .slice vb y.vs.length vd] y) := hid (zofA_old (famF d) HOd.out HGY.out (bl_then HB.out (below_drew1 _)))
          obtain ⟨la, lc, x1, HRUN, HO2, HGr⟩ := OwnA.push (famF d) 33 26 56 (.agg #[.int .i64 0, .slice none 0 0, .slice none 0 0]) Tryz.underlying26 Tryz.infoF rfl (by decide) (by decide) HOd.out HZ.out HB.out.size (by rw [HN.out.2.2]; omega)
          rw [HN.out.2.2] at HRUN HO2 HGr
          have HBd := hid (bl_then HB.out (below_drew1 _))
          have HB2 := hid (HBd.out.trans (HOd.out.bel HGr.out (Nat.le_refl _) HBd.out.size))
          go_wp2_with fail
          go_region_held3 (fun W => W.cell? ⟨b2, o2, none⟩ = some (.int .i64 y.num) ∧ W.cell? ⟨b2, o2 + 1, none⟩ = some (.slice kb y.ks.length kd) ∧ W.cell? ⟨b2, o2 + 2, none⟩ = some (.slice vb y.vs.length vd)) (first | exact ⟨d0, d1, d2⟩ | exact ⟨cell_below D0.out HB2.out, cell_below D1.out HB2.out, cell_below D2.out HB2.out⟩ | exact ⟨cell_below d0 (by exact blBy), cell_below d1 (by exact blBy), cell_below d2 (by exact blBy)⟩) (first | (refine step_append_ran rfl _ _ 26 26 rfl rfl _ _ (.slice la (n + 1) lc) x1 rfl rfl HRUN.out ?_))
          go_wp2
          exact ⟨⟨x :: l, r, out ++ [y], n1, n2 - 1, n + 1, _, _, la, ca, cb - 1, lc, rfl, rfl, rfl, hid ⟨HN.out.1, by have := HN.out.2.1; simp at this; omega, by rw [List.length_append, HN.out.2.2]; rfl⟩, by omega, hid ⟨HR.out.1, RowM.tl HR.out.2⟩, hid ⟨HQ.out.1, fun z hz => HQ.out.2.1 z (List.mem_cons_of_mem _ hz), by rw [← HQ.out.2.2, uni_gt hq]; simp⟩, HO2, HB2⟩, by simp [lnV]; omega⟩
set_option maxHeartbeats 1000000
theorem Tryz.infoP : (Tryz.prog.info? 197).map (fun i => (i.zero, i.size, i.bytes)) = some (some (.agg #[.int .u64 0, .slice none 0 0, .slice none 0 0, .int .u64 0, .slice none 0 0, .slice none 0 0]), 6, 112) := by kernel_rfl
/-- A pair of values. -/
def FmP (d : Nat) (w : World) (Z : Nat → Prop) (cs : List Value) (p : CV CM × CV CM) : Prop := ∃ c1 c2, cs = c1 ++ c2 ∧ FmV d w Z c1 p.1 ∧ FmV d w Z c2 p.2
theorem famP (d : Nat) : Fam 6 (FmP d) where
  go h g hf hz := by
    obtain ⟨c1, c2, e, h1, h2⟩ := h
    exact ⟨c1, c2, e, (famV d).go h1 g hf hz, (famV d).go h2 g hf hz⟩
  old h := by
    obtain ⟨c1, c2, e, h1, h2⟩ := h
    exact ⟨c1, c2, e, (famV d).old h1, (famV d).old h2⟩
  one h u hu := by
    obtain ⟨c1, c2, rfl, h1, h2⟩ := h
    rcases List.mem_append.1 hu with q | q
    · exact (famV d).one h1 u q
    · exact (famV d).one h2 u q
  len h := by
    obtain ⟨c1, c2, rfl, h1, h2⟩ := h
    rw [List.length_append, (famV d).len h1, (famV d).len h2]
theorem FmP.kept {d : Nat} {w w' : World} {Z : Nat → Prop} {cs : List Value} {p : CV CM × CV CM} (h : FmP d w Z cs p) (hb : Below w.heap.size w w') : FmP d w' Z cs p := (famP d).go h (keepT hb) (fun _ _ => trivial) (fun _ h => h)
abbrev PrsR (w : World) (Z : Nat → Prop) (d : Nat) (v : Value) (xs : List (CV CM × CV CM)) : Prop := RowM w Z 6 (FmP d w Z) v xs
theorem PrsR.go {w w' : World} {Z Z' f : Nat → Prop} {d : Nat} {v : Value} {xs : List (CV CM × CV CM)} (h : PrsR w Z d v xs) (g : Keep f w w') (hf : ∀ b, Z b → f b) (hz : ∀ b, Z b → Z' b) : PrsR w' Z' d v xs := ((RowM.keep h g hf).weak hz).imp (fun cs x _ hx => (famP d).go hx g hf hz)
theorem prs_open {d : Nat} {w : World} {Z : Nat → Prop} {cs : List Value} {p : CV CM × CV CM} (h : FmP d w Z cs p) : ∃ ba bc ma mc da dc na nc, cs = [.int .u64 p.1.n, .slice ba p.1.b.length bc, .slice ma p.1.ms.length mc, .int .u64 p.2.n, .slice da p.2.b.length dc, .slice na p.2.ms.length nc] ∧ FmV d w Z [.int .u64 p.1.n, .slice ba p.1.b.length bc, .slice ma p.1.ms.length mc] p.1 ∧ FmV d w Z [.int .u64 p.2.n, .slice da p.2.b.length dc, .slice na p.2.ms.length nc] p.2 := by
  obtain ⟨c1, c2, rfl, h1, h2⟩ := h
  obtain ⟨ba, bc, ma, mc, rfl, -⟩ := val_open h1
  obtain ⟨da, dc, na, nc, rfl, -⟩ := val_open h2
  exact ⟨ba, bc, ma, mc, da, dc, na, nc, rfl, h1, h2⟩
theorem prs_at {w : World} {Z : Nat → Prop} {d : Nat} {a : Option Addr} {n c : Nat} {xs : List (CV CM × CV CM)} (h : PrsR w Z d (.slice a n c) xs) {i : Nat} (hi : i < xs.length) : ∃ b o ba bc ma mc da dc na nc, a = some ⟨b, o, none⟩ ∧ Z b ∧ b < w.heap.size ∧ w.cell? ⟨b, o + i * 6, none⟩ = some (.int .u64 xs[i].1.n) ∧ w.cell? ⟨b, o + i * 6 + 1, none⟩ = some (.slice ba xs[i].1.b.length bc) ∧ w.cell? ⟨b, o + i * 6 + 2, none⟩ = some (.slice ma xs[i].1.ms.length mc) ∧ w.cell? ⟨b, o + i * 6 + 3, none⟩ = some (.int .u64 xs[i].2.n) ∧ w.cell? ⟨b, o + i * 6 + 4, none⟩ = some (.slice da xs[i].2.b.length dc) ∧ w.cell? ⟨b, o + i * 6 + 5, none⟩ = some (.slice na xs[i].2.ms.length nc) ∧ FmP d w Z [.int .u64 xs[i].1.n, .slice ba xs[i].1.b.length bc, .slice ma xs[i].1.ms.length mc, .int .u64 xs[i].2.n, .slice da xs[i].2.b.length dc, .slice na xs[i].2.ms.length nc] xs[i] := by
  obtain ⟨b, o, cs, e, hz, hb, hl, he, hc⟩ := RowM.at h (by decide) hi
  obtain ⟨ba, bc, ma, mc, da, dc, na, nc, rfl, -⟩ := prs_open he
  exact ⟨b, o, ba, bc, ma, mc, da, dc, na, nc, e, hz, hb, hc 0 _ rfl, hc 1 _ rfl, hc 2 _ rfl, hc 3 _ rfl, hc 4 _ rfl, hc 5 _ rfl, he⟩
theorem growpair (w : World) (n : Nat) (hn : n ≤ 4000000) : Calls Tryz.prog 210 #[.slice none 0 0, .int .i64 (n : Int)] w fun e w' => ∃ a c, e = .returned (.slice a 0 c) ∧ w'.ownsRow w.heap.size 197 6 (.slice a 0 c) 0 [] ∧ Below w.heap.size w w' := by
  by_cases h0 : n = 0
  · subst h0
    go_enter Tryz.func210, Tryz.ntmps210
    go_wp2
    go_ret
    exact ⟨none, 0, rfl, World.ownsRow_nil _ _ _ _, by exact blBy⟩
  · obtain ⟨i0, hi0, hz0, hzs, hzb⟩ := info_parts Tryz.infoP
    have HA := fun ty => Lib.run_append_grow_zeros (P := Tryz.prog) w 201 3 ty 197 i0 _ .i64 .i64 Tryz.underlying201 Tryz.underlying3 hi0 hz0 none 0 0 [] (by rw [hzs]; exact run_firstCells_none w.drew 6 0 0 0) n (by omega) (by omega) (by omega) (by omega) (by rw [hzb]; omega) (by rw [hzb]; exact growslice_fits (by omega) (by omega))
    simp only [Nat.zero_add] at HA
    obtain ⟨G, hG⟩ : ∃ G, G = grownCap w n 0 197 := ⟨_, rfl⟩
    have hGn : n ≤ G := by rw [hG]; exact grownCap_ge w _ _ _
    have hGm : G ≤ maxLen := by rw [hG]; exact grownCap_le_maxLen w _ _ _ (by unfold maxLen; omega)
    simp only [← hG] at HA
    clear hG
    obtain ⟨ROW, hROW⟩ : ∃ ROW : Array Value, ROW = ([] : List Value).toArray ++ Builtin.zeroCells (Value.cells (.agg #[.int .u64 0, .slice none 0 0, .slice none 0 0, .int .u64 0, .slice none 0 0, .slice none 0 0])) n ++ Builtin.zeroCells (Value.cells (.agg #[.int .u64 0, .slice none 0 0, .slice none 0 0, .int .u64 0, .slice none 0 0, .slice none 0 0])) (G - n) := ⟨_, rfl⟩
    have hRS : ROW.size = G * 6 := by
      rw [hROW]
      simp only [Array.size_append, List.size_toArray, Builtin.zeroCells, Array.size_map, Array.size_range]
      simp only [Value.cells]
      show 0 + n * 6 + (G - n) * 6 = G * 6
      omega
    simp only [← hROW] at HA
    clear hROW
    have HAA := hid HA
    have HFIN : Hid (∀ W : World, W.heap = (w.drew.alloc (.cells ROW 197)).heap → W.ownsRow w.heap.size 197 6 (.slice (some ⟨w.heap.size, 0, none⟩) 0 G) 0 []) := hid fun W hW => ⟨rfl, .inr ⟨w.heap.size, G, ROW, rfl, Nat.le_refl _, by rw [hW]; show (w.heap.push _)[w.heap.size]? = _; simp, Nat.zero_le _, hGm, hRS, by simp⟩⟩
    have k1 : (0 : Int) < (n : Int) := by omega
    have k2 : ((n : Int) < 0) = False := eq_false (by omega)
    have k3 : (n : Int) ≤ 9223372036854775807 := by omega
    have k5 : (G : Int) ≤ 9223372036854775807 := by unfold maxLen at hGm; omega
    have k6 : (0 : Int) ≤ (G : Int) := by omega
    clear HA hRS hGm hi0 hz0 hzs hzb
    go_enter Tryz.func210, Tryz.ntmps210
    go_wp2_with (first | (at_builtin; refine wpList_appendz_ran rfl _ _ _ _ rfl _ _ rfl rfl (HAA.out _) ?_))
    go_wp2
    go_ret
    exact ⟨_, G, rfl, HFIN.out _ rfl, by exact blBy⟩
theorem concatpair (d : Nat) (w : World) (Z : Nat → Prop) (rows : List (Option Addr × Nat × List (CV CM × CV CM))) (p : Nat) (hp : Blk w p 201 (rows.map rwV).toArray) (hr : ∀ r ∈ rows, RowM w Z 6 ((FmP d) w Z) (rwV r) r.2.2) (hn : (rwL rows).length ≤ 4000000) (hm : rows.length ≤ 1000) : Calls Tryz.prog 179 #[.slice (some ⟨p, 0, none⟩) rows.length rows.length] w fun e w' => ∃ a c, e = .returned (.slice a (rwL rows).length c) ∧ OwnA w' w.heap.size Z 197 6 (FmP d) (.slice a (rwL rows).length c) (rwL rows) ∧ Below w.heap.size w w' := by
  have HP := hid hp
  have HR := hid hr
  have m1 : (rows.length : Int) ≤ 9223372036854775807 := by omega
  clear hp hr
  go_enter Tryz.func179, Tryz.ntmps179
  go_wp2
  go_loopw [3, 11] (fun s3 s11 wr => ∃ (j n : Nat), s3 = .int .i64 (n : Int) ∧ s11 = .int .i64 (j : Int) ∧ j ≤ rows.length ∧ Hid ((rwL (rows.take j)).length = n) ∧ n ≤ 4000000 ∧ wr = w) (fun s3 s11 wr => rows.length - numAt wr s11)
  case atStart => exact ⟨0, 0, rfl, rfl, by omega, hid rfl, by omega, rfl⟩
  case round =>
    obtain ⟨j, n, rfl, rfl, hj, HN, hn4, rfl⟩ := hrel
    by_cases hlt : j < rows.length
    · have k2 : (j : Int) < (rows.length : Int) := by omega
      have hc : wr.cell? ⟨p, j, none⟩ = some (rwV rows[j]) := HP.out.cell j _ (by simp [hlt])
      have zp := HP.out.lt
      have HT := hid (rwL_take hlt)
      have HL : Hid ((rwL (rows.take (j + 1))).length ≤ 4000000) := hid (Nat.le_trans (rwL_le rows (j + 1)) hn)
      generalize rows[j] = r at *
      obtain ⟨ra, rc, rx⟩ := r
      unfold rwV at hc
      dsimp only at hc HT
      have hs : n + rx.length ≤ 4000000 := by have := HL.out; rw [HT.out, List.length_append, HN.out] at this; exact this
      have hw : IntKind.i64.wrap ((n : Int) + (rx.length : Int)) = (n : Int) + (rx.length : Int) := by rw [IntKind.wrap_i64]; omega
      have hz : ((n : Int) + (rx.length : Int) < 0) = False := eq_false (by omega)
      have hl9 : (rx.length : Int) ≤ 9223372036854775807 := by omega
      go_wp2
      exact ⟨⟨j + 1, n + rx.length, by simp, by simp, by omega, hid (by rw [HT.out, List.length_append, HN.out]), hs, trivial⟩, by simp [numAt]; omega⟩
    · have k2 : ¬ (j : Int) < (rows.length : Int) := by omega
      have e1 : rows.take j = rows := List.take_of_length_le (by omega)
      rw [e1] at HN
      clear e1
      go_wp2_with fail
      refine (growpair _ n hn4).mono ?_
      rintro e w1 ⟨ga, gc, rfl, ho, hb⟩
      have HO : Hid (OwnA w1 wr.heap.size Z 197 6 (FmP d) (.slice ga 0 gc) []) := hid ⟨[], ho, rfl, fun i t x ht => by simp at ht⟩
      have HB := hid hb
      clear ho hb hlt hj
      go_wp2
      clear k2 HN
      go_loopw [6, 27] (fun s6 s27 wx => ∃ (j m : Nat) (a : Option Addr) (c : Nat), s6 = .slice a m c ∧ s27 = .int .i64 (j : Int) ∧ j ≤ rows.length ∧ Hid ((rwL (rows.take j)).length = m) ∧ Hid (OwnA wx wr.heap.size Z 197 6 (FmP d) (.slice a m c) (rwL (rows.take j))) ∧ Hid (Below wr.heap.size wr wx)) (fun s6 s27 wx => rows.length - numAt wx s27)
      case atStart => exact ⟨0, 0, ga, gc, rfl, rfl, by omega, hid rfl, HO, HB⟩
      case round =>
        clear HO HB
        obtain ⟨j, m, oa, oc, rfl, rfl, hj, HM, HO, HB⟩ := hrel
        by_cases hlt : j < rows.length
        · have k2 : (j : Int) < (rows.length : Int) := by omega
          have HP1 := hid (HP.out.kept HB.out)
          have hc := HP1.out.cell j (rwV rows[j]) (by simp [hlt])
          have zp := HP1.out.lt
          have HT := hid (rwL_take hlt)
          have HL : Hid ((rwL (rows.take (j + 1))).length ≤ 4000000) := hid (Nat.le_trans (rwL_le rows (j + 1)) hn)
          have HQ := hid (rowA_old (famP d) (by decide) HO.out (HR.out _ (List.getElem_mem hlt)) HB.out)
          generalize rows[j] = r at *
          obtain ⟨ra, rc, rx⟩ := r
          unfold rwV at hc HQ
          dsimp only at hc HT HQ
          have hs : (rwL (rows.take j)).length + rx.length ≤ 4000000 := by have := HL.out; rw [HT.out, List.length_append] at this; exact this
          obtain ⟨la, lc, x1, HRUN, HO2, HG⟩ := OwnA.app (famP d) 197 201 112 (.agg #[.int .u64 0, .slice none 0 0, .slice none 0 0, .int .u64 0, .slice none 0 0, .slice none 0 0]) Tryz.underlying201 Tryz.infoP rfl (by decide) (by decide) HO.out HQ.out HB.out.size hs
          rw [HM.out] at HRUN HO2 HG
          have HB2 := hid (HB.out.trans (HO.out.bel HG.out (Nat.le_refl _) HB.out.size))
          have hl9 : (rx.length : Int) ≤ 9223372036854775807 := by omega
          clear hs HL HQ HG HB HP1
          go_wp2_with (first | (at_builtin; refine wpList_append_ran rfl _ _ 201 201 rfl rfl _ _ (.slice la (m + rx.length) lc) x1 rfl rfl HRUN.out ?_))
          exact ⟨⟨j + 1, m + rx.length, la, lc, rfl, by simp, by omega, hid (by rw [HT.out, List.length_append, HM.out]), hid (by rw [HT.out]; exact HO2.out), HB2⟩, by simp [numAt]; omega⟩
        · have k2 : ¬ (j : Int) < (rows.length : Int) := by omega
          have e1 : rows.take j = rows := List.take_of_length_le (by omega)
          rw [e1] at HO HM
          clear e1
          rw [← HM.out] at HO ⊢
          clear HM
          go_wp2
          go_ret
          exact ⟨oa, oc, rfl, HO.out, HB.out⟩
end Go.Proofs.YtnebbmeomjiogaaGreatDoor
