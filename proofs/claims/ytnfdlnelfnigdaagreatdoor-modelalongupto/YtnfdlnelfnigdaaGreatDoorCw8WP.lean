/-
  Walks over PutEntry, the program's and the document's.
  Entries that can be written; what a typed message holds.
  Whether a message is typed, with all messages within.
  What stays of a typed message.
  What stays of a typed message: its lists; whether all stays.
  The program's Set: what stays beside a field, and its place.
  What is chosen of fields, in a row of one's own.
  The walk over the document's counting of characters.
  Compare: the document's walk.
  A symbol by its number, by its name: what the program answers.
  Symbol, Number: what the program and the document answer.
  A name's names (the document's).
  A type's name by what stands ahead (the document's).
  An enum's type (the document's).
  A field by itself (the document's): what it answers.
  A message's type: what the document answers.
  A field by itself (the document's): kinds below 16.
  A field by itself (the document's): enums.
  A field by itself (the document's): messages.
  A field by itself (the document's): whole.
-/
import Derived.Test.YtnfdlnelfnigdaaGreatDoorCBD
import Derived.Test.YtnfdlnelfnigdaaGreatDoorCAQ
import Derived.Test.YtnfdlnelfnigdaaGreatDoorCAI
import Derived.Test.YtnfdlnelfnigdaaGreatDoorCTX0
import Derived.Test.YtnfdlnelfnigdaaGreatDoorCAO
import Derived.Test.YtnfdlnelfnigdaaGreatDoorCTA
import Derived.Test.YtnfdlnelfnigdaaGreatDoorCAH
namespace Go.Proofs.YtnfdlnelfnigdaaGreatDoor.W
open Go.RowKit
set_option maxRecDepth 1000000
/-- The bytes of an entry; none where it has a fault. -/
def pp (num kind n : Int) (ys : List Int) : List Int := if ef num kind n ys.length = 0 then pe num kind n ys else []
set_option maxHeartbeats 400000 in
theorem putEntryNo (num kind n : Int) (a : Option Addr) (len cap : Nat) (w : World) (hl : len ≤ 9223372036854775807) (he : ef num kind n len ≠ 0) :
    Calls Tryz.prog 148 #[.agg #[.int .i64 num, .int .i64 kind, .int .u64 n, .slice a len cap]] w fun e w' => e = .returned (.tuple #[.slice none 0 0, .int .i64 (ef num kind n len)]) ∧ Below w.heap.size w w' := by
  have hne : (ef num kind n len != 0) = true := by simp [he]
  clear he
  go_enter Tryz.func148, Tryz.ntmps148
  go_wp2_with fail
  refine (entryFaultW _ _ _ _ _ _ _ hl).mono ?_
  rintro e w1 ⟨rfl, hb1⟩
  go_wp2
  go_ret2
  exact ⟨rfl, below_trans (below_alloc _) hb1⟩
set_option maxHeartbeats 400000 in
theorem putEntryYes (num kind n : Int) (a : Option Addr) (len cap : Nat) (ys : List Int) (w : World) (hr : Reads w a len cap ys) (he : ef num kind n len = 0) (hn0 : 0 ≤ n) (hn1 : n < 18446744073709551616) (hm : 20 + len ≤ 140737488355328) :
    Calls Tryz.prog 148 #[.agg #[.int .i64 num, .int .i64 kind, .int .u64 n, .slice a len cap]] w fun e w' => ∃ v, e = .returned (.tuple #[v, .int .i64 0]) ∧ w'.ownsRow w.heap.size 5 1 v (pe num kind n ys).length ((pe num kind n ys).map (Value.int .u8)) ∧ Below w.heap.size w w' := by
  have HE := hid he
  have HT := hid (ef_ok he).1
  have HR := hid hr
  have hl : len ≤ 9223372036854775807 := Nat.le_trans hr.le hr.max
  clear he hr
  go_enter Tryz.func148, Tryz.ntmps148
  go_wp2_with fail
  refine (entryFaultW _ _ _ _ _ _ _ hl).mono ?_
  rw [HE.out]
  rintro e w1 ⟨rfl, hb1⟩
  have hb := below_trans (below_alloc (.cells #[.int .i64 num, .int .i64 kind, .int .u64 n, .slice a len cap] 40)) hb1
  have c0 : w1.cell? ⟨w.heap.size, 0, none⟩ = some (.int .i64 num) := by rw [hb1.cell (p := ⟨w.heap.size, 0, none⟩) (by simp), World.cell?_alloc_at _ _ _ _ rfl]; rfl
  have c1 : w1.cell? ⟨w.heap.size, 1, none⟩ = some (.int .i64 kind) := by rw [hb1.cell (p := ⟨w.heap.size, 1, none⟩) (by simp), World.cell?_alloc_at _ _ _ _ rfl]; rfl
  have c2 : w1.cell? ⟨w.heap.size, 2, none⟩ = some (.int .u64 n) := by rw [hb1.cell (p := ⟨w.heap.size, 2, none⟩) (by simp), World.cell?_alloc_at _ _ _ _ rfl]; rfl
  have c3 : w1.cell? ⟨w.heap.size, 3, none⟩ = some (.slice a len cap) := by rw [hb1.cell (p := ⟨w.heap.size, 3, none⟩) (by simp), World.cell?_alloc_at _ _ _ _ rfl]; rfl
  have hsz : w.heap.size ≤ w1.heap.size := hb.size
  have HB := hid hb
  clear hb hb1
  go_wp2_with fail
  refine (addEntryW w.heap.size _ 0 [] num kind n a len cap ys _ (World.ownsRow_nil _ _ _ _) hsz (fun w' h => reads_kept HR.out (HB.out.trans h)) HT.out hn0 hn1 (by omega)).mono ?_
  rintro e w3 ⟨v3, rfl, ho3, hg3⟩
  go_wp2
  go_ret2
  refine ⟨v3, rfl, by simpa using ho3, HB.out.trans (hg3.below hsz (fun k hk => by cases hk))⟩
/-- PutEntry's answer as a slice that can be read. -/
theorem putEntryAny (num kind n : Int) (a : Option Addr) (len cap : Nat) (ys : List Int) (w : World) (hr : Reads w a len cap ys) (hn0 : 0 ≤ n) (hn1 : n < 18446744073709551616) (hm : 20 + len ≤ 140737488355328) :
    Calls Tryz.prog 148 #[.agg #[.int .i64 num, .int .i64 kind, .int .u64 n, .slice a len cap]] w fun e w' => ∃ b c, e = .returned (.tuple #[.slice b (pp num kind n ys).length c, .int .i64 (ef num kind n len)]) ∧ Reads w' b (pp num kind n ys).length c (pp num kind n ys) ∧ Below w.heap.size w w' := by
  have hlen := hr.length
  by_cases he : ef num kind n len = 0
  · refine (putEntryYes num kind n a len cap ys w hr he hn0 hn1 hm).mono ?_
    rintro e w' ⟨v, rfl, ho, hb⟩
    obtain ⟨b, c, rfl, hr2⟩ := own_reads ho (pe_bd (ef_ok he).1 hn0 hn1 (bd_mem hr.bd) (by omega))
    have e1 : pp num kind n ys = pe num kind n ys := by rw [pp, hlen, if_pos he]
    rw [e1, he]
    exact ⟨b, c, rfl, hr2, hb⟩
  · refine (putEntryNo num kind n a len cap w (Nat.le_trans hr.le hr.max) he).mono ?_
    rintro e w' ⟨rfl, hb⟩
    have e1 : pp num kind n ys = [] := by rw [pp, hlen, if_neg he]
    rw [e1]
    exact ⟨none, 0, rfl, reads_nil _, hb⟩
end Go.Proofs.YtnfdlnelfnigdaaGreatDoor.W
namespace Go.Proofs.YtnfdlnelfnigdaaGreatDoor
open Go.RowKit
set_option maxRecDepth 1000000
set_option linter.unusedVariables false
set_option linter.unusedSimpArgs false
set_option maxHeartbeats 1000000
/-- An entry that can be written. -/
def entB (x : CE) : Bool := W.ef x.num x.kind x.n x.b.length == 0
theorem Reads.old {w : World} {a : Option Addr} {len cap : Nat} {xs : List Int} (h : Reads w a len cap xs) : W.Reads w a len cap xs := ⟨h.length, h.le, h.max, h.bd, h.cells⟩
theorem isEntryM (w : World) (Z : Nat → Prop) (cs : List Value) (x : CE) (h : EntE w Z cs x) : Calls Tryz.prog 117 #[.agg cs.toArray] w fun e w' => e = .returned (.bool (entB x)) ∧ Below w.heap.size w w' := by
  obtain ⟨ba, bc, rfl, g1, l1, -, -, hu⟩ := ent_open h
  have HP := hid fun W1 (hW : Below w.heap.size w W1) => W.putEntryAny x.num x.kind x.n ba x.b.length bc x.b W1 (g1.kept hW).reads.old hu.1 hu.2 (by omega)
  have HX : Hid (entB x = (W.ef x.num x.kind x.n x.b.length == 0)) := hid rfl
  clear h g1 hu
  generalize entB x = res at *
  generalize W.ef x.num x.kind x.n x.b.length = er at *
  go_enter Tryz.func117, Tryz.ntmps117
  go_wp2_with fail
  refine (HP.out _ (by exact blBy)).mono ?_
  rintro e w1 ⟨b, c, rfl, -, hb1⟩
  have hbz : Hid (Below w.heap.size w w1) := hid (bl_then (by exact blBy) hb1)
  clear hb1
  go_wp2
  go_ret
  exact ⟨ret_bool HX.out.symm, hbz.out⟩
/-- What hold asks of a message, by the entries' own rule. -/
theorem holdT (w : World) (l : List TV) (ta : Option Addr) (tc : Nat) (h : TbR w (.slice ta l.length tc) l) (hg : goodB l = true) (x : TV) (hx : x ∈ l) (Z : Nat → Prop) (d : Nat) (cs : List Value) (m : CM) (hm : MsgE w Z (d + 1) cs m) : Calls Tryz.prog 77 #[.agg #[.slice ta l.length tc], .agg (cTV x).toArray, .agg cs.toArray] w fun e w' => e = .returned (.bool (holdB l entB x m)) ∧ Below w.heap.size w w' :=
  holdM w l ta tc h hg x hx (good_ones hg hx) entB Z (fun W hW cs y hy => isEntryM W Z cs y hy) d cs m hm
end Go.Proofs.YtnfdlnelfnigdaaGreatDoor
namespace Go.Proofs.YtnfdlnelfnigdaaGreatDoor
open Go.RowKit
set_option maxRecDepth 1000000
set_option linter.unusedVariables false
set_option linter.unusedSimpArgs false
set_option maxHeartbeats 1000000
/-- The type of the messages in a field. -/
def blwB (l : List TV) (x : TV) (f : CF CM) : TV := (l[(ownF x.t.fs f.num).ref.toNat]?).getD x
/-- Whether a message, so deep at most, is typed. -/
def keptB (l : List TV) (d : Nat) (x : TV) (m : CM) : Bool := walkB (holdB l entB) (blwB l) d x m
theorem ownF_hasF {fs : List FT} {n : Int} (h : hasF fs n = true) : ownF fs n ∈ fs ∧ (ownF fs n).num = n := by
  unfold hasF at h
  unfold ownF
  cases hq : fs.find? (fun o => o.num == n) with
  | none => rw [hq] at h; cases h
  | some o => exact ⟨List.mem_of_find?_eq_some hq, by have := List.find?_some hq; simpa using this⟩
theorem holdB_has {l : List TV} {ent : CE → Bool} {x : TV} {m : CM} (h : holdB l ent x m = true) {f : CF CM} (hf : f ∈ m.fs) : hasF x.t.fs f.num = true := by
  unfold holdB at h
  simp only [Bool.and_eq_true, List.all_eq_true] at h
  have := h.2.1 f hf
  unfold typB8 at this
  simp only [Bool.and_eq_true] at this
  exact this.1
theorem blwB_at {l : List TV} (hg : goodB l = true) {x : TV} (hx : x ∈ l) {f : CF CM} (hf : hasF x.t.fs f.num = true) : l[(ownF x.t.fs f.num).ref.toNat]? = some (blwB l x f) := by
  obtain ⟨h1, h2⟩ := ownF_hasF hf
  obtain ⟨r0, r1⟩ := good_refs hg hx h1
  unfold blwB
  rw [List.getElem?_eq_getElem r1]
  rfl
theorem blwB_in {l : List TV} (hg : goodB l = true) {x : TV} (hx : x ∈ l) {f : CF CM} (hf : hasF x.t.fs f.num = true) : blwB l x f ∈ l := List.mem_of_getElem? (blwB_at hg hx hf)
theorem cfHold (args : Array Value) (W : World) : (callFunc 77 args).run Tryz.prog W = .ok (.enter 77 args) W := cf_enter Tryz.func77 (by kernel_rfl) (by kernel_rfl) args W
theorem cfBelow (args : Array Value) (W : World) : (callFunc 31 args).run Tryz.prog W = .ok (.enter 31 args) W := cf_enter Tryz.func31 (by kernel_rfl) (by kernel_rfl) args W
theorem wkHold (l : List TV) (ta : Option Addr) (tc : Nat) (hg : goodB l = true) (hsh : ∀ x ∈ l, ShT x) (Z : Nat → Prop) : WkH Z (fun W => TbR W (.slice ta l.length tc) l) (· ∈ l) (fun _ _ _ => True) (holdB l entB) (blwB l) 77 31 #[.agg #[.slice ta l.length tc]] #[.agg #[.slice ta l.length tc]] where
  kept h hb := h.kept hb
  sh := hsh
  eh := cfHold
  eb := cfBelow
  h W x d cs m hW hx _ hm := by
    cases d with
    | zero => exact hm.elim
    | succ d => exact holdT W l ta tc hW hg x hx Z d cs m hm
  b W x d cs m f hW hx _ hh hf hfe := by
    have h1 := holdB_has hh hf
    exact belowT W l ta tc hW hg x hx Z d cs f hfe _ (ownF_hasF h1).1 (ownF_hasF h1).2 _ (blwB_at hg hx h1)
  i x d m f hx _ hh hf := blwB_in hg hx (holdB_has hh hf)
  q _ _ _ _ _ _ _ _ _ _ := trivial
theorem areKeptT (w : World) (l : List TV) (ta : Option Addr) (tc : Nat) (h : TbR w (.slice ta l.length tc) l) (hg : goodB l = true) (x : TV) (hx : x ∈ l) (Z : Nat → Prop) (d : Nat) (cs : List Value) (m : CM) (hm : MsgE w Z d cs m) : Calls Tryz.prog 36 #[.agg #[.slice ta l.length tc], .agg (cTV x).toArray, .agg cs.toArray] w fun e w' => e = .returned (.bool (keptB l d x m)) ∧ Below w.heap.size w w' := by
  have HW := hid fun W (hW : Below w.heap.size w W) => walkT (wkHold l ta tc hg (fun x hx => shT_of (h.ty x hx)) Z) d W x cs m (h.kept hW) hx trivial (hm.kept hW)
  obtain ⟨ta1, tc1, ta2, tc2, ta3, tc3, ta4, tc4, e1, e2, e3, e4⟩ := shT_of (h.ty x hx)
  have ec : cTV x = [.string (strOfNums x.t.name), .bool x.t.enum, .slice ta1 x.t.fs.length tc1, .slice ta2 x.t.os.length tc2, .slice ta3 x.t.ss.length tc3, .slice ta4 x.t.rs.length tc4] := by unfold cTV; rw [e1, e2, e3, e4]
  obtain ⟨fa, fc, ua, uc, rfl, -⟩ := msg_openD hm
  have HX : Hid (walkB (holdB l entB) (blwB l) d x m = keptB l d x m) := hid rfl
  rw [ec] at HW ⊢
  clear h hg hx hm e1 e2 e3 e4 ec
  generalize keptB l d x m = res at *
  go_enter Tryz.func36, Tryz.ntmps36
  go_wp2_with fail
  refine (HW.out _ (by exact blBy)).mono ?_
  rintro e w1 ⟨rfl, hb1⟩
  have HB1 : Hid (Below w.heap.size w w1) := hid (bl_then (by exact blBy) hb1)
  clear hb1 HW
  go_wp2
  go_ret
  exact ⟨ret_bool HX.out, HB1.out⟩
theorem typedT (w : World) (l : List TV) (ta : Option Addr) (tc : Nat) (h : TbR w (.slice ta l.length tc) l) (hk : ∀ x ∈ l, OkV x) (mx : Int) (hm0 : w.cell? ⟨0, 0, none⟩ = some (.int .i64 mx)) (k : Nat) (hkl : k < l.length) (hg : goodB l = true) (he : l[k].t.enum = false) (Z : Nat → Prop) (d : Nat) (cs : List Value) (m : CM) (hm : MsgE w Z d cs m) : Calls Tryz.prog 17 #[.agg #[.slice ta l.length tc], .int .i64 (k : Int), .agg cs.toArray] w fun e w' => e = .returned (.tuple #[.bool (keptB l d l[k] m), .int .i64 0]) ∧ Below w.heap.size w w' := by
  have HA := hid fun W (hW : Below w.heap.size w W) => msgAtOk W l ta tc (h.kept hW) hk mx (cell_below hm0 hW) k hkl hg he
  have HK := hid fun W (hW : Below w.heap.size w W) => areKeptT W l ta tc (h.kept hW) hg l[k] (List.getElem_mem hkl) Z d cs m (hm.kept hW)
  obtain ⟨ta1, tc1, ta2, tc2, ta3, tc3, ta4, tc4, e1, e2, e3, e4⟩ := shT_of (h.ty l[k] (List.getElem_mem hkl))
  have ec : cTV l[k] = [.string (strOfNums l[k].t.name), .bool false, .slice ta1 l[k].t.fs.length tc1, .slice ta2 l[k].t.os.length tc2, .slice ta3 l[k].t.ss.length tc3, .slice ta4 l[k].t.rs.length tc4] := by unfold cTV; rw [e1, e2, e3, e4, he]
  obtain ⟨fa, fc, ua, uc, rfl, -⟩ := msg_openD hm
  rw [ec] at HK
  rw [e1, e2, e3, e4] at HA
  clear h hg hm e1 e2 e3 e4 ec hm0 hk he
  generalize keptB l d l[k] m = res at *
  generalize l[k] = x at *
  go_enter Tryz.func17, Tryz.ntmps17
  go_wp2_with fail
  refine (HA.out _ (by exact blBy)).mono ?_
  rintro e w1 ⟨rfl, hb1⟩
  have HB1 : Hid (Below w.heap.size w w1) := hid (bl_then (by exact blBy) hb1)
  have Bt : Blk w1 w.heap.size 46 #[.slice ta l.length tc] := ((Blk.new _ _ _).kept (below_alloc _)).kept hb1
  have Bm : Blk w1 (w.heap.size + 1) 35 #[.slice fa m.fs.length fc, .slice ua m.us.length uc] := (Blk.newAt (by simp)).kept hb1
  have xt := Bt.cellF
  have zt := Bt.lt
  have xm := Bm.cellF
  have zm := Bm.lt
  clear hb1 HA
  go_wp2_with fail
  refine (HK.out _ (by have := HB1.out; exact blBy)).mono ?_
  rintro e w2 ⟨rfl, hb2⟩
  have HB2 : Hid (Below w.heap.size w w2) := hid (bl_then (by have := HB1.out; exact blBy) hb2)
  clear hb2 HK
  go_wp2
  exact bodyPost_ret (v := .tuple #[.bool res, .int .i64 0]) (by simp [results, Tryz.results17, go_sem]) rfl ⟨rfl, by have := HB2.out; exact blBy⟩
end Go.Proofs.YtnfdlnelfnigdaaGreatDoor
namespace Go.Proofs.YtnfdlnelfnigdaaGreatDoor
open Go.RowKit
set_option maxRecDepth 1000000
set_option linter.unusedVariables false
set_option linter.unusedSimpArgs false
set_option maxHeartbeats 1000000
def defV (v : CV CM) : Bool := (v.n == 0) && ((v.b.length : Int) == 0)
/-- Whether a typed field is more than if it were not there. -/
def toldO (o : FT) (f : CF CM) : Bool := if o.lab = 0 then (match f.vs with | v :: _ => !(defV v) | [] => true) else if o.lab = 2 ∨ o.lab = 3 ∨ o.lab = 5 then decide (0 < f.vs.length) else true
def toldB (fs : List FT) (f : CF CM) : Bool := toldO (ownF fs f.num) f
def takenO (o : FT) (ok : Bool) (k : Int) : Bool := ok && (tvF o k || trF o k)
def takenB (fs : List FT) (e : CE) : Bool := takenO (ownF fs e.num) (hasF fs e.num) e.kind
theorem told_zero {o : FT} {f : CF CM} (h0 : o.lab = 0) (h : 0 < f.vs.length) : toldO o f = !((f.vs[0].n == 0) && ((f.vs[0].b.length : Int) == 0)) := by
  obtain ⟨num, ks, vs⟩ := f
  cases vs with
  | nil => simp at h
  | cons v r => simp only [toldO, h0, if_pos, defV, List.getElem_cons_zero]
theorem isDefM (w : World) (n : Int) (ba ma : Option Addr) (bn bc mn mc : Nat) (l1 : bn ≤ 4000000) : Calls Tryz.prog 103 #[.agg #[.int .u64 n, .slice ba bn bc, .slice ma mn mc]] w fun e w' => e = .returned (.bool ((n == 0) && ((bn : Int) == 0))) ∧ Below w.heap.size w w' := by
  have m1 : (bn : Int) ≤ 9223372036854775807 := by omega
  go_enter Tryz.func103, Tryz.ntmps103
  go_wp2
  all_goals (go_ret; exact ⟨ret_bool (by simp [*]), by exact blBy⟩)
theorem isToldM (w : World) (x : TV) (hx : TyR w x) (hr : Rise x.t.fs) (hl : x.t.fs.length ≤ 128) (Z : Nat → Prop) (d : Nat) (cs : List Value) (f : CF CM) (hf : FldE w Z (MsgE w Z d) cs f) (hv : (ownF x.t.fs f.num).lab = 0 → 0 < f.vs.length) : Calls Tryz.prog 69 #[.agg (cTV x).toArray, .agg cs.toArray] w fun e w' => e = .returned (.bool (toldB x.t.fs f)) ∧ Below w.heap.size w w' := by
  obtain ⟨ta1, tc1, ta2, tc2, ta3, tc3, ta4, tc4, e1, e2, e3, e4⟩ := shT_of hx
  have ecx : cTV x = [.string (strOfNums x.t.name), .bool x.t.enum, .slice ta1 x.t.fs.length tc1, .slice ta2 x.t.os.length tc2, .slice ta3 x.t.ss.length tc3, .slice ta4 x.t.rs.length tc4] := by unfold cTV; rw [e1, e2, e3, e4]
  rw [ecx]
  have HFO := hid fun W (hW : Below w.heap.size w W) => findT x.t.fs f.num W ta1 tc1 (by rw [← e1]; exact (hx.kept hW).f) hr hl
  obtain ⟨ka, kc, va, vc, rfl, -, g2, l1, l2, -⟩ := fld_open hf
  have G := hid g2
  have m2 : (f.vs.length : Int) ≤ 9223372036854775807 := by omega
  have HX0 : Hid (toldB x.t.fs f = toldO (ownF x.t.fs f.num) f) := hid rfl
  generalize toldB x.t.fs f = res at *
  generalize ownF x.t.fs f.num = o at *
  generalize hasF x.t.fs f.num = ok at *
  clear hx hf g2 hr hl e1 e2 e3 e4 ecx
  by_cases h0 : o.lab = 0
  · have hvl := hv h0
    obtain ⟨b1, o1, ba1, bc1, ma1, mc1, rfl, -, hb1, c0, c1, c2, he⟩ := vls_at G.out (i := 0) hvl
    obtain ⟨_, _, _, _, e5, -, -, bl1, -, -⟩ := val_open he
    clear e5 he
    have HX : Hid (res = !((f.vs[0].n == 0) && ((f.vs[0].b.length : Int) == 0))) := hid (by rw [HX0.out]; exact told_zero h0 hvl)
    have k0 : (o.lab == 0) = true := by simp [h0]
    have k1 : (0 : Int) < (f.vs.length : Int) := by omega
    have hvl' := hid hvl
    clear HX0 h0 hv
    generalize f.vs[0] = v at *
    simp only [Nat.zero_mul, Nat.add_zero] at c0 c1 c2
    go_enter Tryz.func69, Tryz.ntmps69
    go_wp2_with fail
    refine (HFO.out _ (by exact blBy)).mono ?_
    rintro e w1 ⟨rfl, hbx⟩
    unfold tFT
    have HB1 : Hid (Below w.heap.size w w1) := hid (bl_then (by exact blBy) hbx)
    have Bf : Blk w1 (w.heap.size + 1) 29 #[.int .i64 f.num, .slice ka f.ks.length kc, .slice (some ⟨b1, o1, none⟩) f.vs.length vc] := (Blk.newAt (by simp)).kept hbx
    have xf := Bf.cellF
    have zf := Bf.lt
    replace c0 := cell_below c0 HB1.out
    replace c1 := cell_below c1 HB1.out
    replace c2 := cell_below c2 HB1.out
    replace hb1 : b1 < w1.heap.size := World.block_lt_of_cell? _ _ c0
    clear hbx HFO Bf
    go_wp2_with fail
    refine (isDefM _ v.n ba1 ma1 v.b.length bc1 v.ms.length mc1 bl1).mono ?_
    rintro e w2 ⟨rfl, hb2⟩
    have HB2 : Hid (Below w.heap.size w w2) := hid (bl_then (by have := HB1.out; exact blBy) hb2)
    clear hb2
    go_wp2
    go_ret
    exact ⟨ret_bool (by rw [HX.out]; simp), HB2.out⟩
  have k0 : (o.lab == 0) = false := by simpa using h0
  by_cases h2 : o.lab = 2
  · have k2 : (o.lab == 2) = true := by simp [h2]
    have HX : Hid (res = decide (0 < f.vs.length)) := hid (by rw [HX0.out]; unfold toldO; rw [if_neg h0, if_pos (by omega)])
    clear HX0 h0  h2 hv
    by_cases hn : 0 < f.vs.length
    · have k1 : (0 < (f.vs.length : Int)) = True := eq_true (by omega)
      have k9 : (0 < f.vs.length) = True := eq_true hn
      have HX2 : Hid (res = true) := hid (by rw [HX.out]; simpa using hn)
      clear hn HX
      go_enter Tryz.func69, Tryz.ntmps69
      go_wp2_with fail
      refine (HFO.out _ (by exact blBy)).mono ?_
      rintro e w1 ⟨rfl, hbx⟩
      unfold tFT
      have HB1 : Hid (Below w.heap.size w w1) := hid (bl_then (by exact blBy) hbx)
      have Bf : Blk w1 (w.heap.size + 1) 29 #[.int .i64 f.num, .slice ka f.ks.length kc, .slice va f.vs.length vc] := (Blk.newAt (by simp)).kept hbx
      have xf := Bf.cellF
      have zf := Bf.lt
      clear hbx HFO Bf
      go_wp2
      go_ret
      exact ⟨ret_bool HX2.out.symm, by have := HB1.out; exact blBy⟩
    · have k1 : (0 < (f.vs.length : Int)) = False := eq_false (by omega)
      have k9 : (0 < f.vs.length) = False := eq_false hn
      have HX2 : Hid (res = false) := hid (by rw [HX.out]; simpa using hn)
      clear hn HX
      go_enter Tryz.func69, Tryz.ntmps69
      go_wp2_with fail
      refine (HFO.out _ (by exact blBy)).mono ?_
      rintro e w1 ⟨rfl, hbx⟩
      unfold tFT
      have HB1 : Hid (Below w.heap.size w w1) := hid (bl_then (by exact blBy) hbx)
      have Bf : Blk w1 (w.heap.size + 1) 29 #[.int .i64 f.num, .slice ka f.ks.length kc, .slice va f.vs.length vc] := (Blk.newAt (by simp)).kept hbx
      have xf := Bf.cellF
      have zf := Bf.lt
      clear hbx HFO Bf
      go_wp2
      go_ret
      exact ⟨ret_bool HX2.out.symm, by have := HB1.out; exact blBy⟩
  by_cases h3 : o.lab = 3
  · have k3 : (o.lab == 3) = true := by simp [h3]
    have k2 : (o.lab == 2) = false := by simpa using h2
    have HX : Hid (res = decide (0 < f.vs.length)) := hid (by rw [HX0.out]; unfold toldO; rw [if_neg h0, if_pos (by omega)])
    clear HX0 h0 h2 h3 hv
    by_cases hn : 0 < f.vs.length
    · have k1 : (0 < (f.vs.length : Int)) = True := eq_true (by omega)
      have k9 : (0 < f.vs.length) = True := eq_true hn
      have HX2 : Hid (res = true) := hid (by rw [HX.out]; simpa using hn)
      clear hn HX
      go_enter Tryz.func69, Tryz.ntmps69
      go_wp2_with fail
      refine (HFO.out _ (by exact blBy)).mono ?_
      rintro e w1 ⟨rfl, hbx⟩
      unfold tFT
      have HB1 : Hid (Below w.heap.size w w1) := hid (bl_then (by exact blBy) hbx)
      have Bf : Blk w1 (w.heap.size + 1) 29 #[.int .i64 f.num, .slice ka f.ks.length kc, .slice va f.vs.length vc] := (Blk.newAt (by simp)).kept hbx
      have xf := Bf.cellF
      have zf := Bf.lt
      clear hbx HFO Bf
      go_wp2
      go_ret
      exact ⟨ret_bool HX2.out.symm, by have := HB1.out; exact blBy⟩
    · have k1 : (0 < (f.vs.length : Int)) = False := eq_false (by omega)
      have k9 : (0 < f.vs.length) = False := eq_false hn
      have HX2 : Hid (res = false) := hid (by rw [HX.out]; simpa using hn)
      clear hn HX
      go_enter Tryz.func69, Tryz.ntmps69
      go_wp2_with fail
      refine (HFO.out _ (by exact blBy)).mono ?_
      rintro e w1 ⟨rfl, hbx⟩
      unfold tFT
      have HB1 : Hid (Below w.heap.size w w1) := hid (bl_then (by exact blBy) hbx)
      have Bf : Blk w1 (w.heap.size + 1) 29 #[.int .i64 f.num, .slice ka f.ks.length kc, .slice va f.vs.length vc] := (Blk.newAt (by simp)).kept hbx
      have xf := Bf.cellF
      have zf := Bf.lt
      clear hbx HFO Bf
      go_wp2
      go_ret
      exact ⟨ret_bool HX2.out.symm, by have := HB1.out; exact blBy⟩
  by_cases h5 : o.lab = 5
  · have k5 : (o.lab == 5) = true := by simp [h5]
    have k2 : (o.lab == 2) = false := by simpa using h2
    have k3 : (o.lab == 3) = false := by simpa using h3
    have HX : Hid (res = decide (0 < f.vs.length)) := hid (by rw [HX0.out]; unfold toldO; rw [if_neg h0, if_pos (by omega)])
    clear HX0 h0 h2 h3 h5 hv
    by_cases hn : 0 < f.vs.length
    · have k1 : (0 < (f.vs.length : Int)) = True := eq_true (by omega)
      have k9 : (0 < f.vs.length) = True := eq_true hn
      have HX2 : Hid (res = true) := hid (by rw [HX.out]; simpa using hn)
      clear hn HX
      go_enter Tryz.func69, Tryz.ntmps69
      go_wp2_with fail
      refine (HFO.out _ (by exact blBy)).mono ?_
      rintro e w1 ⟨rfl, hbx⟩
      unfold tFT
      have HB1 : Hid (Below w.heap.size w w1) := hid (bl_then (by exact blBy) hbx)
      have Bf : Blk w1 (w.heap.size + 1) 29 #[.int .i64 f.num, .slice ka f.ks.length kc, .slice va f.vs.length vc] := (Blk.newAt (by simp)).kept hbx
      have xf := Bf.cellF
      have zf := Bf.lt
      clear hbx HFO Bf
      go_wp2
      go_ret
      exact ⟨ret_bool HX2.out.symm, by have := HB1.out; exact blBy⟩
    · have k1 : (0 < (f.vs.length : Int)) = False := eq_false (by omega)
      have k9 : (0 < f.vs.length) = False := eq_false hn
      have HX2 : Hid (res = false) := hid (by rw [HX.out]; simpa using hn)
      clear hn HX
      go_enter Tryz.func69, Tryz.ntmps69
      go_wp2_with fail
      refine (HFO.out _ (by exact blBy)).mono ?_
      rintro e w1 ⟨rfl, hbx⟩
      unfold tFT
      have HB1 : Hid (Below w.heap.size w w1) := hid (bl_then (by exact blBy) hbx)
      have Bf : Blk w1 (w.heap.size + 1) 29 #[.int .i64 f.num, .slice ka f.ks.length kc, .slice va f.vs.length vc] := (Blk.newAt (by simp)).kept hbx
      have xf := Bf.cellF
      have zf := Bf.lt
      clear hbx HFO Bf
      go_wp2
      go_ret
      exact ⟨ret_bool HX2.out.symm, by have := HB1.out; exact blBy⟩
  · have k2 : (o.lab == 2) = false := by simpa using h2
    have k3 : (o.lab == 3) = false := by simpa using h3
    have k5 : (o.lab == 5) = false := by simpa using h5
    have HX : Hid (res = true) := hid (by rw [HX0.out]; unfold toldO; rw [if_neg h0, if_neg (by omega)])
    clear HX0 h0 h2 h3 h5 hv
    go_enter Tryz.func69, Tryz.ntmps69
    go_wp2_with fail
    refine (HFO.out _ (by exact blBy)).mono ?_
    rintro e w1 ⟨rfl, hbx⟩
    unfold tFT
    have HB1 : Hid (Below w.heap.size w w1) := hid (bl_then (by exact blBy) hbx)
    have Bf : Blk w1 (w.heap.size + 1) 29 #[.int .i64 f.num, .slice ka f.ks.length kc, .slice va f.vs.length vc] := (Blk.newAt (by simp)).kept hbx
    have xf := Bf.cellF
    have zf := Bf.lt
    clear hbx HFO Bf
    go_wp2
    go_ret
    exact ⟨ret_bool HX.out.symm, by have := HB1.out; exact blBy⟩
theorem isTakenM (w : World) (x : TV) (hx : TyR w x) (hr : Rise x.t.fs) (hl : x.t.fs.length ≤ 128) (Z : Nat → Prop) (cs : List Value) (y : CE) (hy : EntE w Z cs y) : Calls Tryz.prog 71 #[.agg (cTV x).toArray, .agg cs.toArray] w fun e w' => e = .returned (.bool (takenB x.t.fs y)) ∧ Below w.heap.size w w' := by
  obtain ⟨ta1, tc1, ta2, tc2, ta3, tc3, ta4, tc4, e1, e2, e3, e4⟩ := shT_of hx
  have ecx : cTV x = [.string (strOfNums x.t.name), .bool x.t.enum, .slice ta1 x.t.fs.length tc1, .slice ta2 x.t.os.length tc2, .slice ta3 x.t.ss.length tc3, .slice ta4 x.t.rs.length tc4] := by unfold cTV; rw [e1, e2, e3, e4]
  rw [ecx]
  have HFO := hid fun W (hW : Below w.heap.size w W) => findT x.t.fs y.num W ta1 tc1 (by rw [← e1]; exact (hx.kept hW).f) hr hl
  obtain ⟨ba, bc, rfl, -⟩ := ent_open hy
  have HX0 : Hid (takenB x.t.fs y = takenO (ownF x.t.fs y.num) (hasF x.t.fs y.num) y.kind) := hid rfl
  generalize takenB x.t.fs y = res at *
  generalize ownF x.t.fs y.num = o at *
  generalize hasF x.t.fs y.num = ok at *
  clear hx hy hr hl e1 e2 e3 e4 ecx
  cases ok with
  | false =>
    have HX : Hid (res = false) := hid (by rw [HX0.out]; rfl)
    go_enter Tryz.func71, Tryz.ntmps71
    go_wp2_with fail
    refine (HFO.out _ (by exact blBy)).mono ?_
    rintro e w1 ⟨rfl, hbx⟩
    unfold tFT
    have HB1 : Hid (Below w.heap.size w w1) := hid (bl_then (by exact blBy) hbx)
    have Be : Blk w1 (w.heap.size + 1) 40 #[.int .i64 y.num, .int .i64 y.kind, .int .u64 y.n, .slice ba y.b.length bc] := (Blk.newAt (by simp)).kept hbx
    have xe := Be.cellF
    have ze := Be.lt
    clear hbx HFO
    go_wp2
    go_ret
    exact ⟨ret_bool HX.out.symm, by have := HB1.out; exact blBy⟩
  | true =>
    have HX1 : Hid (res = (tvF o y.kind || trF o y.kind)) := hid (by rw [HX0.out]; simp [takenO])
    have HTV := hid fun W => takesValueT o W y.kind
    have HTR := hid fun W => takesRowT o W y.kind
    cases hq : tvF o y.kind with
    | true =>
      rw [hq, Bool.true_or] at HX1
      rw [hq] at HTV
      go_enter Tryz.func71, Tryz.ntmps71
      go_wp2_with fail
      refine (HFO.out _ (by exact blBy)).mono ?_
      rintro e w1 ⟨rfl, hbx⟩
      unfold tFT
      have HB1 : Hid (Below w.heap.size w w1) := hid (bl_then (by exact blBy) hbx)
      have Be : Blk w1 (w.heap.size + 1) 40 #[.int .i64 y.num, .int .i64 y.kind, .int .u64 y.n, .slice ba y.b.length bc] := (Blk.newAt (by simp)).kept hbx
      have xe := Be.cellF
      have ze := Be.lt
      clear hbx HFO
      go_wp2_with fail
      refine (HTV.out _).mono ?_
      rintro e w2 ⟨rfl, hb2⟩
      have HB2 : Hid (Below w.heap.size w w2) := hid (bl_then (by have := HB1.out; exact blBy) hb2)
      clear hb2
      go_wp2
      go_ret
      exact ⟨ret_bool HX1.out.symm, HB2.out⟩
    | false =>
      rw [hq, Bool.false_or] at HX1
      rw [hq] at HTV
      go_enter Tryz.func71, Tryz.ntmps71
      go_wp2_with fail
      refine (HFO.out _ (by exact blBy)).mono ?_
      rintro e w1 ⟨rfl, hbx⟩
      unfold tFT
      have HB1 : Hid (Below w.heap.size w w1) := hid (bl_then (by exact blBy) hbx)
      have Be : Blk w1 (w.heap.size + 1) 40 #[.int .i64 y.num, .int .i64 y.kind, .int .u64 y.n, .slice ba y.b.length bc] := (Blk.newAt (by simp)).kept hbx
      have xe := Be.cellF
      have ze := Be.lt
      clear hbx HFO
      go_wp2_with fail
      refine (HTV.out _).mono ?_
      rintro e w2 ⟨rfl, hb2⟩
      have HB2 : Hid (Below w.heap.size w w2) := hid (bl_then (by have := HB1.out; exact blBy) hb2)
      have Be2 : Blk w2 (w.heap.size + 1) 40 #[.int .i64 y.num, .int .i64 y.kind, .int .u64 y.n, .slice ba y.b.length bc] := by first | exact Be.kept hb2 | exact (Be.kept (below_alloc _)).kept hb2
      have xe2 := Be2.cellF
      have Bo2 : Blk w2 w1.heap.size 77 #[.string (strOfNums o.name), .int .i64 o.num, .int .i64 o.kind, .int .i64 o.ref, .int .i64 o.lab, .int .i64 o.one, .int .i64 o.key] := (Blk.new _ _ _).kept hb2
      have xo2 := Bo2.cellF
      have zo2 := Bo2.lt
      have ze2 := Be2.lt
      clear hb2
      go_wp2_with fail
      refine (HTR.out _).mono ?_
      rintro e w3 ⟨rfl, hb3⟩
      have HB3 : Hid (Below w.heap.size w w3) := hid (bl_then (by have := HB2.out; exact blBy) hb3)
      clear hb3
      go_wp2
      go_ret
      exact ⟨ret_bool HX1.out.symm, HB3.out⟩
end Go.Proofs.YtnfdlnelfnigdaaGreatDoor
namespace Go.Proofs.YtnfdlnelfnigdaaGreatDoor
open Go.RowKit
set_option maxRecDepth 1000000
set_option linter.unusedVariables false
set_option linter.unusedSimpArgs false
set_option maxHeartbeats 1000000
def untk (fs : List FT) (e : CE) : Bool := !(takenB fs e)
theorem toldFn (w : World) (x : TV) (hx : TyR w x) (hr : Rise x.t.fs) (hl : x.t.fs.length ≤ 128) (Z : Nat → Prop) (d : Nat) (cs : List Value) (f : CF CM) (hf : FldE w Z (MsgE w Z d) cs f) (hv : (ownF x.t.fs f.num).lab = 0 → 0 < f.vs.length) (p : Nat) (hp : Blk w p 66 (cTV x).toArray) : Calls Tryz.prog 68 #[.agg cs.toArray, .pointer (some ⟨p, 0, none⟩)] w fun e w' => e = .returned (.bool (toldB x.t.fs f)) ∧ Below w.heap.size w w' := by
  have HT := hid fun W (hW : Below w.heap.size w W) => isToldM W x (hx.kept hW) hr hl Z d cs f (hf.kept hW) hv
  obtain ⟨ta1, tc1, ta2, tc2, ta3, tc3, ta4, tc4, e1, e2, e3, e4⟩ := shT_of hx
  have ecx : cTV x = [.string (strOfNums x.t.name), .bool x.t.enum, .slice ta1 x.t.fs.length tc1, .slice ta2 x.t.os.length tc2, .slice ta3 x.t.ss.length tc3, .slice ta4 x.t.rs.length tc4] := by unfold cTV; rw [e1, e2, e3, e4]
  obtain ⟨ka, kc, va, vc, rfl, -⟩ := fld_open hf
  rw [ecx] at HT hp
  have xp := hp.cellF
  have zp := hp.lt
  clear hx hf e1 e2 e3 e4 ecx hp hr hl hv
  go_enter Tryz.func68, Tryz.ntmps68
  go_wp2_with fail
  refine (HT.out _ (by exact blBy)).mono ?_
  rintro e w1 ⟨rfl, hb1⟩
  have HB1 : Hid (Below w.heap.size w w1) := hid (bl_then (by exact blBy) hb1)
  clear hb1
  go_wp2
  go_ret
  exact ⟨rfl, HB1.out⟩
theorem untkFn (w : World) (x : TV) (hx : TyR w x) (hr : Rise x.t.fs) (hl : x.t.fs.length ≤ 128) (Z : Nat → Prop) (cs : List Value) (y : CE) (hy : EntE w Z cs y) (p : Nat) (hp : Blk w p 66 (cTV x).toArray) : Calls Tryz.prog 70 #[.agg cs.toArray, .pointer (some ⟨p, 0, none⟩)] w fun e w' => e = .returned (.bool (untk x.t.fs y)) ∧ Below w.heap.size w w' := by
  have HT := hid fun W (hW : Below w.heap.size w W) => isTakenM W x (hx.kept hW) hr hl Z cs y (hy.kept hW)
  obtain ⟨ta1, tc1, ta2, tc2, ta3, tc3, ta4, tc4, e1, e2, e3, e4⟩ := shT_of hx
  have ecx : cTV x = [.string (strOfNums x.t.name), .bool x.t.enum, .slice ta1 x.t.fs.length tc1, .slice ta2 x.t.os.length tc2, .slice ta3 x.t.ss.length tc3, .slice ta4 x.t.rs.length tc4] := by unfold cTV; rw [e1, e2, e3, e4]
  obtain ⟨ba, bc, rfl, -⟩ := ent_open hy
  have HX : Hid ((!(takenB x.t.fs y)) = untk x.t.fs y) := hid rfl
  rw [ecx] at HT hp
  have xp := hp.cellF
  have zp := hp.lt
  clear hx hy e1 e2 e3 e4 ecx hp hr hl
  go_enter Tryz.func70, Tryz.ntmps70
  go_wp2_with fail
  refine (HT.out _ (by exact blBy)).mono ?_
  rintro e w1 ⟨rfl, hb1⟩
  have HB1 : Hid (Below w.heap.size w w1) := hid (bl_then (by exact blBy) hb1)
  clear hb1
  go_wp2
  go_ret
  exact ⟨ret_bool HX.out, HB1.out⟩
theorem cfTold (args : Array Value) (W : World) : (callFunc 68 args).run Tryz.prog W = .ok (.enter 68 args) W := cf_enter Tryz.func68 (by kernel_rfl) (by kernel_rfl) args W
theorem cfUntk (args : Array Value) (W : World) : (callFunc 70 args).run Tryz.prog W = .ok (.enter 70 args) W := cf_enter Tryz.func70 (by kernel_rfl) (by kernel_rfl) args W
/-- What stays of a message, but for what the messages within hold. -/
def stayM (x : TV) (m : CM) : CM := CM.mk (m.fs.filter (toldB x.t.fs)) (m.us.filter (untk x.t.fs))
theorem settledM (w : World) (x : TV) (hx : TyR w x) (hr : Rise x.t.fs) (hl : x.t.fs.length ≤ 128) (Z : Nat → Prop) (d : Nat) (cs : List Value) (m : CM) (hm : MsgE w Z (d + 1) cs m) (hv : ∀ f ∈ m.fs, (ownF x.t.fs f.num).lab = 0 → 0 < f.vs.length) : Calls Tryz.prog 30 #[.agg (cTV x).toArray, .agg cs.toArray] w fun e w' => ∃ ds : List Value, e = .returned (.agg ds.toArray) ∧ MsgE w' (fun b => Z b ∨ w.heap.size ≤ b) (d + 1) ds (stayM x m) ∧ Below w.heap.size w w' := by
  obtain ⟨ka, kc, va, vc, rfl, g1, g2, l1, l2⟩ := msg_open (MsgE.old (d + 1) _ _ hm)
  have HTF := hid fun W (hW : Below w.heap.size w W) (p : Nat) (hp : Blk W p 66 (cTV x).toArray) => chosenF W (fun b => Z b ∧ b < w.heap.size) d m.fs ka kc (g1.kept hW) 68 #[.pointer (some ⟨p, 0, none⟩)] cfTold (toldB x.t.fs) (fun W' hW' cs f hf hfe => toldFn W' x (hx.kept (below_trans hW hW')) hr hl _ d cs f hfe (hv f hf) p (hp.kept hW'))
  have HTE := hid fun W (hW : Below w.heap.size w W) (p : Nat) (hp : Blk W p 66 (cTV x).toArray) => chosenE W (fun b => Z b ∧ b < w.heap.size) m.us va vc (g2.kept hW) 70 #[.pointer (some ⟨p, 0, none⟩)] cfUntk (untk x.t.fs) (fun W' hW' cs y hy hye => untkFn W' x (hx.kept (below_trans hW hW')) hr hl _ cs y hye p (hp.kept hW'))
  obtain ⟨ta1, tc1, ta2, tc2, ta3, tc3, ta4, tc4, e1, e2, e3, e4⟩ := shT_of hx
  have ecx : cTV x = [.string (strOfNums x.t.name), .bool x.t.enum, .slice ta1 x.t.fs.length tc1, .slice ta2 x.t.os.length tc2, .slice ta3 x.t.ss.length tc3, .slice ta4 x.t.rs.length tc4] := by unfold cTV; rw [e1, e2, e3, e4]
  rw [ecx] at HTF HTE ⊢
  have HST : Hid (stayM x m = CM.mk (m.fs.filter (toldB x.t.fs)) (m.us.filter (untk x.t.fs))) := hid rfl
  generalize stayM x m = res at *
  generalize m.fs.filter (toldB x.t.fs) = nf at *
  generalize m.us.filter (untk x.t.fs) = nu at *
  clear hx hm g1 g2 e1 e2 e3 e4 ecx hr hl hv
  go_enter Tryz.func30, Tryz.ntmps30
  go_upto_region 3 with fail
  have Bx : Blk (((w.alloc (.cells #[.string (strOfNums x.t.name), .bool x.t.enum, .slice ta1 x.t.fs.length tc1, .slice ta2 x.t.os.length tc2, .slice ta3 x.t.ss.length tc3, .slice ta4 x.t.rs.length tc4] 66)).alloc (.cells #[.slice ka m.fs.length kc, .slice va m.us.length vc] 35)).alloc (.cells #[.slice none 0 0, .slice none 0 0] 35)) w.heap.size 66 #[.string (strOfNums x.t.name), .bool x.t.enum, .slice ta1 x.t.fs.length tc1, .slice ta2 x.t.os.length tc2, .slice ta3 x.t.ss.length tc3, .slice ta4 x.t.rs.length tc4] := ((Blk.new _ _ _).kept (below_alloc _)).kept (below_alloc _)
  have Bm : Blk (((w.alloc (.cells #[.string (strOfNums x.t.name), .bool x.t.enum, .slice ta1 x.t.fs.length tc1, .slice ta2 x.t.os.length tc2, .slice ta3 x.t.ss.length tc3, .slice ta4 x.t.rs.length tc4] 66)).alloc (.cells #[.slice ka m.fs.length kc, .slice va m.us.length vc] 35)).alloc (.cells #[.slice none 0 0, .slice none 0 0] 35)) (w.heap.size + 1) 35 #[.slice ka m.fs.length kc, .slice va m.us.length vc] := (Blk.newAt (by simp)).kept (below_alloc _)
  have Br : Blk (((w.alloc (.cells #[.string (strOfNums x.t.name), .bool x.t.enum, .slice ta1 x.t.fs.length tc1, .slice ta2 x.t.os.length tc2, .slice ta3 x.t.ss.length tc3, .slice ta4 x.t.rs.length tc4] 66)).alloc (.cells #[.slice ka m.fs.length kc, .slice va m.us.length vc] 35)).alloc (.cells #[.slice none 0 0, .slice none 0 0] 35)) (w.heap.size + 1 + 1) 35 #[.slice none 0 0, .slice none 0 0] := Blk.newAt (by simp)
  have HB : Hid (Below w.heap.size w (((w.alloc (.cells #[.string (strOfNums x.t.name), .bool x.t.enum, .slice ta1 x.t.fs.length tc1, .slice ta2 x.t.os.length tc2, .slice ta3 x.t.ss.length tc3, .slice ta4 x.t.rs.length tc4] 66)).alloc (.cells #[.slice ka m.fs.length kc, .slice va m.us.length vc] 35)).alloc (.cells #[.slice none 0 0, .slice none 0 0] 35))) := hid (by exact blBy)
  have HS : Hid (w.heap.size + 3 ≤ (((w.alloc (.cells #[.string (strOfNums x.t.name), .bool x.t.enum, .slice ta1 x.t.fs.length tc1, .slice ta2 x.t.os.length tc2, .slice ta3 x.t.ss.length tc3, .slice ta4 x.t.rs.length tc4] 66)).alloc (.cells #[.slice ka m.fs.length kc, .slice va m.us.length vc] 35)).alloc (.cells #[.slice none 0 0, .slice none 0 0] 35)).heap.size) := hid (by simp)
  generalize (((w.alloc (.cells #[.string (strOfNums x.t.name), .bool x.t.enum, .slice ta1 x.t.fs.length tc1, .slice ta2 x.t.os.length tc2, .slice ta3 x.t.ss.length tc3, .slice ta4 x.t.rs.length tc4] 66)).alloc (.cells #[.slice ka m.fs.length kc, .slice va m.us.length vc] 35)).alloc (.cells #[.slice none 0 0, .slice none 0 0] 35)) = W at *
  have f0 : W.cell? ⟨w.heap.size + 1, 0, none⟩ = some (.slice ka m.fs.length kc) := Bm.cell 0 _ rfl
  have f1 : W.cell? ⟨w.heap.size + 1, 1, none⟩ = some (.slice va m.us.length vc) := Bm.cell 1 _ rfl
  have hp1 : w.heap.size + 1 ≠ w.heap.size + 1 + 1 := by omega
  have HBX := hid Bx
  have xr := Br.cellF
  have yr := Br.frz
  have zr := Br.lt
  clear Bx Bm
  go_region_held3 (fun W => W.cell? ⟨w.heap.size + 1, 0, none⟩ = some (.slice ka m.fs.length kc) ∧ W.cell? ⟨w.heap.size + 1, 1, none⟩ = some (.slice va m.us.length vc)) (first | exact ⟨f0, f1⟩ | exact ⟨cs2 f0 hp1, cs2 f1 hp1⟩) (first | (go_at_call 72; refine (HTF.out _ (by have := HB.out; exact blBy) _ (HBX.out.kept (by first | exact Below.refl _ _ | exact below_drew1 _ | exact below_drewN _ _))).mono ?_; rintro e w2 ⟨a1, c1, rfl, hn, hbx⟩; replace f0 := cell_below f0 (below_trans (by first | exact Below.refl _ _ | exact below_drew1 _ | exact below_drewN _ _) hbx); replace f1 := cell_below f1 (below_trans (by first | exact Below.refl _ _ | exact below_drew1 _ | exact below_drewN _ _) hbx); replace Br := Br.kept (below_trans (by first | exact Below.refl _ _ | exact below_drew1 _ | exact below_drewN _ _) hbx); replace xr := Br.cellF; replace yr := Br.frz; replace zr := Br.lt; replace HB := hid (below_trans HB.out (below_trans (by first | exact Below.refl _ _ | exact below_drew1 _ | exact below_drewN _ _) hbx)); replace HBX := hid (HBX.out.kept (below_trans (by first | exact Below.refl _ _ | exact below_drew1 _ | exact below_drewN _ _) hbx)); have H1 : Hid (FlsR w2 (fun b => b ≠ w.heap.size + 1 + 1 ∧ (Z b ∨ w.heap.size ≤ b)) d (.slice a1 nf.length c1) nf) := hid (FlsR.go hn (Keep.refl (fun _ => True) _) (fun _ _ => trivial) (fun b hz => by rcases hz with hz | hz; exact ⟨by have := hz.2; omega, Or.inl hz.1⟩; exact ⟨by have := HS.out; (try simp at hz); omega, Or.inr (by have := HS.out; (try simp at hz); omega)⟩)); (try replace H2 := hid (EnsR.kept H2.out (below_trans (by first | exact Below.refl _ _ | exact below_drew1 _ | exact below_drewN _ _) hbx))); replace HS := hid (Nat.le_trans HS.out (Below.size (below_trans (by first | exact Below.refl _ _ | exact below_drew1 _ | exact below_drewN _ _) hbx))); clear hn hbx) | (go_at_call 73; refine (HTE.out _ (by have := HB.out; exact blBy) _ (HBX.out.kept (by first | exact Below.refl _ _ | exact below_drew1 _ | exact below_drewN _ _))).mono ?_; rintro e w3 ⟨a2, c2, rfl, hn, hbx⟩; replace f0 := cell_below f0 (below_trans (by first | exact Below.refl _ _ | exact below_drew1 _ | exact below_drewN _ _) hbx); replace f1 := cell_below f1 (below_trans (by first | exact Below.refl _ _ | exact below_drew1 _ | exact below_drewN _ _) hbx); replace Br := Br.kept (below_trans (by first | exact Below.refl _ _ | exact below_drew1 _ | exact below_drewN _ _) hbx); replace xr := Br.cellF; replace yr := Br.frz; replace zr := Br.lt; replace HB := hid (below_trans HB.out (below_trans (by first | exact Below.refl _ _ | exact below_drew1 _ | exact below_drewN _ _) hbx)); replace HBX := hid (HBX.out.kept (below_trans (by first | exact Below.refl _ _ | exact below_drew1 _ | exact below_drewN _ _) hbx)); have H2 : Hid (EnsR w3 (fun b => b ≠ w.heap.size + 1 + 1 ∧ (Z b ∨ w.heap.size ≤ b)) (.slice a2 nu.length c2) nu) := hid (EnsR.go hn (Keep.refl (fun _ => True) _) (fun _ _ => trivial) (fun b hz => by rcases hz with hz | hz; exact ⟨by have := hz.2; omega, Or.inl hz.1⟩; exact ⟨by have := HS.out; (try simp at hz); omega, Or.inr (by have := HS.out; (try simp at hz); omega)⟩)); (try replace H1 := hid (FlsR.kept H1.out (below_trans (by first | exact Below.refl _ _ | exact below_drew1 _ | exact below_drewN _ _) hbx))); replace HS := hid (Nat.le_trans HS.out (Below.size (below_trans (by first | exact Below.refl _ _ | exact below_drew1 _ | exact below_drewN _ _) hbx))); clear hn hbx))
  all_goals go_wp2
  all_goals exact bodyPost_ret (v := .agg #[.slice a1 nf.length c1, .slice a2 nu.length c2]) (by simp [results, Tryz.results30, go_sem, xr, zr, yr]) rfl ⟨[.slice a1 nf.length c1, .slice a2 nu.length c2], rfl, by rw [HST.out]; exact ⟨_, _, rfl, FlsR.go H1.out (f := (· ≠ w.heap.size + 1 + 1)) (by with_reducible repeat (first | exact Keep.refl _ _ | refine kpS ?_ (by first | (simp; done) | (simp; omega) | omega) | refine kpA ?_ _ | refine kpD ?_ | refine kpN ?_ _)) (fun _ h => h.1) (fun _ h => h.2), EnsR.go H2.out (f := (· ≠ w.heap.size + 1 + 1)) (by with_reducible repeat (first | exact Keep.refl _ _ | refine kpS ?_ (by first | (simp; done) | (simp; omega) | omega) | refine kpA ?_ _ | refine kpD ?_ | refine kpN ?_ _)) (fun _ h => h.1) (fun _ h => h.2)⟩, by have := HB.out; exact blBy⟩
end Go.Proofs.YtnfdlnelfnigdaaGreatDoor
namespace Go.Proofs.YtnfdlnelfnigdaaGreatDoor
open Go.RowKit
set_option maxRecDepth 1000000
set_option linter.unusedVariables false
set_option linter.unusedSimpArgs false
set_option maxHeartbeats 2000000
/-- Whether a field of type b stays beside one of type a: another number, and no rival in a oneof. -/
def stayO (a b : FT) (n k : Int) : Bool := (k != n) && !((a.lab == 4) && ((b.lab == 4) && (a.one == b.one)))
def stayB (fs : List FT) (n : Int) (f : CF CM) : Bool := stayO (ownF fs n) (ownF fs f.num) n f.num
theorem stayFn (w : World) (x : TV) (hx : TyR w x) (hr : Rise x.t.fs) (hl : x.t.fs.length ≤ 128) (Z : Nat → Prop) (d : Nat) (cs : List Value) (f : CF CM) (hf : FldE w Z (MsgE w Z d) cs f) (p q r : Nat) (n : Int) (fk fv : Value) (hp : Blk w p 66 (cTV x).toArray) (hq : Blk w q 77 #[.string (strOfNums (ownF x.t.fs n).name), .int .i64 (ownF x.t.fs n).num, .int .i64 (ownF x.t.fs n).kind, .int .i64 (ownF x.t.fs n).ref, .int .i64 (ownF x.t.fs n).lab, .int .i64 (ownF x.t.fs n).one, .int .i64 (ownF x.t.fs n).key]) (hw : Blk w r 29 #[.int .i64 n, fk, fv]) : Calls Tryz.prog 97 #[.agg cs.toArray, .pointer (some ⟨p, 0, none⟩), .pointer (some ⟨q, 0, none⟩), .pointer (some ⟨r, 0, none⟩)] w fun e w' => e = .returned (.bool (stayB x.t.fs n f)) ∧ Below w.heap.size w w' := by
  obtain ⟨ta1, tc1, ta2, tc2, ta3, tc3, ta4, tc4, e1, e2, e3, e4⟩ := shT_of hx
  have ecx : cTV x = [.string (strOfNums x.t.name), .bool x.t.enum, .slice ta1 x.t.fs.length tc1, .slice ta2 x.t.os.length tc2, .slice ta3 x.t.ss.length tc3, .slice ta4 x.t.rs.length tc4] := by unfold cTV; rw [e1, e2, e3, e4]
  have HFO := hid fun W (hW : Below w.heap.size w W) => findT x.t.fs f.num W ta1 tc1 (by rw [← e1]; exact (hx.kept hW).f) hr hl
  obtain ⟨ka, kc, va, vc, rfl, -⟩ := fld_open hf
  rw [ecx] at hp
  have HX : Hid (stayB x.t.fs n f = stayO (ownF x.t.fs n) (ownF x.t.fs f.num) n f.num) := hid rfl
  generalize stayB x.t.fs n f = res at *
  generalize ownF x.t.fs f.num = b at *
  generalize hasF x.t.fs f.num = ok at *
  generalize ownF x.t.fs n = a at *
  have Bq := hid hq
  have Br := hid hw
  have Bp := hid hp
  have xp := hp.cellF
  have zp := hp.lt
  clear hx hf hr hl e1 e2 e3 e4 ecx hp hq hw
  unfold stayO at HX
  go_enter Tryz.func97, Tryz.ntmps97
  go_wp2_with fail
  refine (HFO.out _ (by exact blBy)).mono ?_
  rintro e w1 ⟨rfl, hb1⟩
  unfold tFT
  have Bf : Blk w1 w.heap.size 29 #[.int .i64 f.num, .slice ka f.ks.length kc, .slice va f.vs.length vc] := (Blk.new _ _ _).kept hb1
  have HB : Hid (Below w.heap.size w w1) := hid (bl_then (below_alloc _) hb1)
  have Bq1 := Bq.out.kept HB.out
  have Br1 := Br.out.kept HB.out
  have xq := Bq1.cellF
  have zq := Bq1.lt
  have xr := Br1.cellF
  have zr := Br1.lt
  have xf := Bf.cellF
  have zf := Bf.lt
  clear hb1 xp zp Bf Bq1 Br1
  cases e1 : (f.num != n) with
  | false =>
    have HF : Hid (res = false) := hid (by rw [HX.out, e1]; rfl)
    have e1' : f.num = n := by simpa using e1
    cases e2 : (a.lab == 4) with
    | false =>
      go_wp2
      go_ret
      exact ⟨ret_bool HF.out.symm, by have := HB.out; exact blBy⟩
    | true =>
      cases e3 : (b.lab == 4) with
      | false =>
        go_wp2
        go_ret
        exact ⟨ret_bool HF.out.symm, by have := HB.out; exact blBy⟩
      | true =>
        go_wp2
        go_ret
        exact ⟨ret_bool HF.out.symm, by have := HB.out; exact blBy⟩
  | true =>
    cases e2 : (a.lab == 4) with
    | false =>
      have HF : Hid (res = true) := hid (by rw [HX.out, e1, e2]; rfl)
      go_wp2
      go_ret
      exact ⟨ret_bool HF.out.symm, by have := HB.out; exact blBy⟩
    | true =>
      cases e3 : (b.lab == 4) with
      | false =>
        have HF : Hid (res = true) := hid (by rw [HX.out, e1, e2, e3]; rfl)
        go_wp2
        go_ret
        exact ⟨ret_bool HF.out.symm, by have := HB.out; exact blBy⟩
      | true =>
        cases e4 : (a.one == b.one) with
        | false =>
          have HF : Hid (res = true) := hid (by rw [HX.out, e1, e2, e3, e4]; rfl)
          go_wp2
          go_ret
          exact ⟨ret_bool HF.out.symm, by have := HB.out; exact blBy⟩
        | true =>
          have HF : Hid (res = false) := hid (by rw [HX.out, e1, e2, e3, e4]; rfl)
          go_wp2
          go_ret
          exact ⟨ret_bool HF.out.symm, by have := HB.out; exact blBy⟩
def laterB (n : Int) (f : CF CM) : Bool := decide (n < f.num)
theorem laterFn (w : World) (Z : Nat → Prop) (d : Nat) (cs : List Value) (f : CF CM) (hf : FldE w Z (MsgE w Z d) cs f) (r : Nat) (n : Int) (fk fv : Value) (hw : Blk w r 29 #[.int .i64 n, fk, fv]) : Calls Tryz.prog 98 #[.agg cs.toArray, .pointer (some ⟨r, 0, none⟩)] w fun e w' => e = .returned (.bool (laterB n f)) ∧ Below w.heap.size w w' := by
  obtain ⟨ka, kc, va, vc, rfl, -⟩ := fld_open hf
  have xr := hw.cellF
  have zr := hw.lt
  have HX : Hid (laterB n f = decide (n < f.num)) := hid rfl
  generalize laterB n f = res at *
  clear hf hw
  go_enter Tryz.func98, Tryz.ntmps98
  go_wp2
  all_goals (go_ret; exact ⟨ret_bool (by rw [HX.out]), by exact blBy⟩)
theorem cfStay (args : Array Value) (W : World) : (callFunc 97 args).run Tryz.prog W = .ok (.enter 97 args) W := cf_enter Tryz.func97 (by kernel_rfl) (by kernel_rfl) args W
theorem cfLater (args : Array Value) (W : World) : (callFunc 98 args).run Tryz.prog W = .ok (.enter 98 args) W := cf_enter Tryz.func98 (by kernel_rfl) (by kernel_rfl) args W
end Go.Proofs.YtnfdlnelfnigdaaGreatDoor
namespace Go.Proofs.YtnfdlnelfnigdaaGreatDoor
open Go.RowKit
set_option maxRecDepth 1000000
set_option linter.unusedVariables false
set_option linter.unusedSimpArgs false
set_option maxHeartbeats 2000000
theorem chosenFO (w : World) (Z : Nat → Prop) (d : Nat) (xs : List (CF CM)) (a : Option Addr) (c : Nat) (h : FlsR w Z d (.slice a xs.length c) xs) (fn : FuncId) (caps : Array Value) (hcf : ∀ (args : Array Value) (W : World), (callFunc fn args).run Tryz.prog W = .ok (.enter fn args) W) (P : CF CM → Bool)
    (hf : ∀ (W : World), Below w.heap.size w W → ∀ (cs : List Value) (x : CF CM), x ∈ xs → FmF d W Z cs x → Calls Tryz.prog fn (#[.agg cs.toArray] ++ caps) W fun e w' => e = .returned (.bool (P x)) ∧ Below W.heap.size W w') : Calls Tryz.prog 72 #[.slice a xs.length c, .func (.func fn) #[] caps] w fun e w' => ∃ a' c', e = .returned (.slice a' (xs.filter P).length c') ∧ OwnA w' w.heap.size Z 29 3 (FmF d) (.slice a' (xs.filter P).length c') (xs.filter P) ∧ Below w.heap.size w w' := by
  obtain ⟨_, _, e1, l1⟩ := RowM.sl h
  clear e1
  have m1 : (xs.length : Int) ≤ 9223372036854775807 := by omega
  have H1 := hid h
  have HF := hid hf
  clear h hf
  go_enter Tryz.func72, Tryz.ntmps72
  go_wp2
  go_loopw [5, 10] (fun s5 s10 wr => ∃ (j n : Nat) (oa : Option Addr) (oc : Nat), s5 = .slice oa n oc ∧ s10 = .int .i64 j ∧ j ≤ xs.length ∧ Hid (((xs.take j).filter P).length = n) ∧ Hid (OwnA wr w.heap.size Z 29 3 (FmF d) (.slice oa n oc) ((xs.take j).filter P)) ∧ Hid (Below w.heap.size w wr)) (fun s5 s10 wr => xs.length - numAt wr s10)
  case atStart => exact ⟨0, 0, none, 0, rfl, rfl, by omega, hid rfl, hid (OwnA.nil _ _ _ _ _ _), hid (Below.refl _ _)⟩
  case round =>
    obtain ⟨j, n, oa, oc, rfl, rfl, hj, HLN, HO, hb⟩ := hrel
    by_cases hlt : j < xs.length
    · have k2 : (j : Int) < (xs.length : Int) := by omega
      obtain ⟨b1, o1, ka1, kc1, va1, vc1, rfl, -, hb1, c0, c1, c2, he⟩ := fls_at H1.out hlt
      have HE := hid he
      have HTK : Hid ((xs.take (j + 1)).filter P = (xs.take j).filter P ++ (if P xs[j] = true then [xs[j]] else [])) := hid (by rw [List.take_succ_eq_append_getElem hlt, List.filter_append]; simp only [List.filter_cons, List.filter_nil])
      have HME := hid (List.getElem_mem hlt)
      have HLB : Hid (n ≤ 4000000) := hid (by rw [← HLN.out]; exact fl_len l1 j)
      replace c0 := cell_below c0 hb.out
      replace c1 := cell_below c1 hb.out
      replace c2 := cell_below c2 hb.out
      replace hb1 : b1 < wr.heap.size := World.block_lt_of_cell? _ _ c0
      clear he
      generalize xs[j] = x at *
      go_wp2_with fail
      refine (HF.out _ (by have := hb.out; exact blBy) [.int .i64 x.num, .slice ka1 x.ks.length kc1, .slice va1 x.vs.length vc1] x HME.out (Fam.go (famF d) HE.out (keepT (by have := hb.out; exact blBy)) (fun _ _ => trivial) (fun _ h => h))).mono ?_
      rintro e w1 ⟨rfl, hbx⟩
      have Bx : Blk w1 wr.heap.size 29 #[.int .i64 x.num, .slice ka1 x.ks.length kc1, .slice va1 x.vs.length vc1] := (Blk.new _ _ _).kept hbx
      have HO1 := hid (HO.out.kept (famF d) (below_trans (below_alloc _) hbx))
      have hbw : Hid (Below w.heap.size w w1) := hid (bl_then (by have := hb.out; exact blBy) hbx)
      clear hbx HO c0 c1 c2
      cases hq : P x with
      | false =>
        rw [hq, if_neg (by simp), List.append_nil] at HTK
        go_wp2
        exact ⟨⟨j + 1, n, oa, oc, rfl, by simp, by omega, hid (by rw [HTK.out]; exact HLN.out), hid (by rw [HTK.out]; exact HO1.out), hbw⟩, by simp [numAt]; omega⟩
      | true =>
        rw [hq, if_pos rfl] at HTK
        have HZ : Hid (FmF d w1 (ZofA w1 Z (.slice oa n oc)) [.int .i64 x.num, .slice ka1 x.ks.length kc1, .slice va1 x.vs.length vc1] x) := hid (zofA_old (famF d) HO1.out HE.out hbw.out)
        obtain ⟨la, lc, x1, HRUN, HO2, HG⟩ := OwnA.push (famF d) 29 32 56 (.agg #[.int .i64 0, .slice none 0 0, .slice none 0 0]) Tryz.underlying32 Tryz.infoF rfl (by decide) (by decide) HO1.out HZ.out hbw.out.size (by rw [HLN.out]; exact HLB.out)
        rw [HLN.out] at HRUN HO2 HG
        have hb2 : Hid (Below w.heap.size w x1) := hid (hbw.out.trans (HO1.out.bel HG.out (Nat.le_refl _) hbw.out.size))
        have xx := Bx.cellF
        have zx := Bx.lt
        go_wp2_with (first | (at_builtin; refine wpList_append_ran rfl _ _ 32 32 rfl rfl _ _ (.slice la (n + 1) lc) x1 rfl rfl HRUN.out ?_))
        exact ⟨⟨j + 1, n + 1, la, lc, rfl, by simp, by omega, hid (by rw [HTK.out, List.length_append, HLN.out]; rfl), hid (by rw [HTK.out]; exact HO2.out), hb2⟩, by simp [numAt]; omega⟩
    · have k2 : ¬ (j : Int) < (xs.length : Int) := by omega
      have e1 : xs.take j = xs := List.take_of_length_le (by omega)
      rw [e1] at HO HLN
      have HRW := HO
      rw [← HLN.out] at HRW ⊢
      clear e1 HLN HO
      go_wp2
      go_ret
      exact ⟨oa, oc, rfl, HRW.out, hb.out⟩
end Go.Proofs.YtnfdlnelfnigdaaGreatDoor
namespace Go.Proofs.YtnfdlnelfnigdaaGreatDoor
open Go.RowKit
set_option maxRecDepth 1000000
set_option maxHeartbeats 4000000
theorem conv {w : World} {a : Option Addr} {len cap : Nat} {xs : List Int} (h : Reads w a len cap xs) : (convert 23 9 (.slice a len cap)).run Tryz.prog w = .ok (.string (strOfNums xs)) w := by
  rcases h.cells with ⟨h0, _⟩ | ⟨b, off, rfl, hc⟩
  · subst h0
    have hx : xs = [] := List.eq_nil_of_length_eq_zero h.length
    subst hx
    cases a with
    | none => rw [run_convert_bytes_nil w 23 5 Tryz.underlying23 Tryz.underlying5 0 cap 9 Tryz.underlying9]; rfl
    | some x =>
      rw [run_convert_bytes_string w 23 9 5 _ 0 cap Tryz.underlying23 Tryz.underlying5 Tryz.underlying9, run_bytesToString w _ 0 cap [] (by simp [loadCells, loadCellsFrom])]
      rfl
  · exact run_convert_bytes_arg w 23 5 Tryz.underlying23 Tryz.underlying5 b off len cap xs h.length hc 9 Tryz.underlying9
section
variable (k n1 n2 : Int) (a1 a2 p1 p2 : Option Addr) (l1 c1 l2 c2 m1 m2 q1 q2 : Nat) (xs ys : List Int) (w : World)
end
end Go.Proofs.YtnfdlnelfnigdaaGreatDoor
namespace Go.Proofs.YtnfdlnelfnigdaaGreatDoor
open Go.RowKit
set_option maxRecDepth 1000000
set_option linter.unusedVariables false
set_option linter.unusedSimpArgs false
set_option maxHeartbeats 1000000
theorem cutI_none : ∀ (l : List Int), (∀ c ∈ l, c ≠ 46) → cutI l = [l]
  | [], _ => rfl
  | c :: r, h => by
    rw [cutI, if_neg (h c (by simp)), cutI_none r (fun c hc => h c (by simp [hc]))]
    rfl
theorem cutI_at : ∀ (a b : List Int), (∀ c ∈ a, c ≠ 46) → cutI (a ++ 46 :: b) = a :: cutI b
  | [], b, _ => by simp [cutI]
  | c :: r, b, h => by
    rw [List.cons_append, cutI, if_neg (h c (by simp)), cutI_at r b (fun c hc => h c (by simp [hc]))]
    rfl
/-- While it is cut: P stands, from fr on there is no dot up to i. -/
structure Cut (xs : List Int) (P : List (List Int)) (fr i : Nat) : Prop where
  is : cutI xs = P ++ cutI (xs.drop fr)
  le : fr ≤ i
  no : ∀ c ∈ (xs.take i).drop fr, c ≠ 46
  few : P.length ≤ i
theorem Cut.step {xs : List Int} {P : List (List Int)} {fr i : Nat} (h : Cut xs P fr i) (hi : i < xs.length) (hx : xs[i] ≠ 46) : Cut xs P fr (i + 1) := by
  refine ⟨h.is, by have := h.le; omega, fun c hc => ?_, by have := h.few; omega⟩
  rw [List.take_succ_eq_append_getElem hi, List.drop_append_of_le_length (by simp; have := h.le; omega)] at hc
  rcases List.mem_append.1 hc with q | q
  · exact h.no c q
  · simp at q; subst q; exact hx
theorem Cut.dot {xs : List Int} {P : List (List Int)} {fr i : Nat} (h : Cut xs P fr i) (hi : i < xs.length) (hx : xs[i] = 46) : Cut xs (P ++ [(xs.take i).drop fr]) (i + 1) (i + 1) := by
  refine ⟨?_, by omega, by simp, by have := h.few; simp; omega⟩
  have e : xs.drop fr = (xs.take i).drop fr ++ 46 :: xs.drop (i + 1) := by
    have e1 : xs = xs.take i ++ 46 :: xs.drop (i + 1) := by rw [← hx, List.getElem_cons_drop, List.take_append_drop]
    conv => lhs; rw [e1]
    rw [List.drop_append_of_le_length (by simp; have := h.le; omega)]
  rw [h.is, e, cutI_at _ _ h.no, List.append_assoc]
  rfl
theorem Cut.fin {xs : List Int} {P : List (List Int)} {fr : Nat} (h : Cut xs P fr xs.length) : P ++ [(xs.take xs.length).drop fr] = cutI xs := by
  rw [h.is, List.take_length, cutI_none]
  have := h.no
  rw [List.take_length] at this
  exact this
end Go.Proofs.YtnfdlnelfnigdaaGreatDoor
