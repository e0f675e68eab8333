/-
  Settle: what the program answers.
  Settle: what the program answers.
  Settle.
  Settling: what the document does to a field is what the program does; normal is: settling changes nothing.
  What is settled: it is typed, it stays, it is not deeper.
  A field put into a message: it is there, and put in again it changes nothing.
-/
import Derived.Test.YtnfdlnelfnigdaaGreatDoorCNF
import Derived.Test.YtnfdlnelfnigdaaGreatDoorCAI
import Derived.Test.YtnfdlnelfnigdaaGreatDoorCw8WP
namespace Go.Proofs.YtnfdlnelfnigdaaGreatDoor
open Go.RowKit
set_option maxRecDepth 1000000
set_option linter.unusedVariables false
set_option linter.unusedSimpArgs false
set_option maxHeartbeats 2000000
theorem rebuiltS (l : List TV) (ta : Option Addr) (tc : Nat) (hg : goodB l = true) : ∀ d, SeAt l ta tc d
  | 0 => fun _ _ _ _ _ _ _ _ h => h.elim
  | d + 1 => fun w Z x cs m hT hx hk h => by
    have HC := rebuiltS l ta tc hg d
    have hkA := kept_all hk
    have h0 := MsgE.old (d + 1) _ _ h
    have HW := hid fun W (hW : Below w.heap.size w W) => settledM W x ((hT.ty x hx).kept hW) (good_rise hg hx).1 (good_rise hg hx).2 (fun b => Z b ∧ b < w.heap.size) d cs m (h0.kept hW) (hold_one hkA.1)
    have hin : ∀ f ∈ (stayM x m).fs, f ∈ m.fs := fun f hf => (List.mem_filter.1 hf).1
    have HSM : Hid (setM l (d + 1) x m = CM.mk ((stayM x m).fs.map (fun f => setF (setM l d (blwB l x f)) f)) (stayM x m).us) := hid rfl
    obtain ⟨ka, kc, va, vc, rfl, -⟩ := msg_openD h
    obtain ⟨ta1, tc1, ta2, tc2, ta3, tc3, ta4, tc4, e1, e2, e3, e4⟩ := shT_of (hT.ty x hx)
    have ecx : cTV x = [.string (strOfNums x.t.name), .bool x.t.enum, .slice ta1 x.t.fs.length tc1, .slice ta2 x.t.os.length tc2, .slice ta3 x.t.ss.length tc3, .slice ta4 x.t.rs.length tc4] := by unfold cTV; rw [e1, e2, e3, e4]
    rw [ecx] at HW ⊢
    generalize setM l (d + 1) x m = res at *
    generalize stayM x m = sm at *
    have hcf := cfStd
    clear h h0 e1 e2 e3 e4
    go_enter Tryz.func29, Tryz.ntmps29
    go_wp2_with fail
    refine (HW.out _ (by exact blBy)).mono ?_
    rintro e w1 ⟨ds, rfl, hn, hbx⟩
    have B4 : Blk w1 w.heap.size 66 #[.string (strOfNums x.t.name), .bool x.t.enum, .slice ta1 x.t.fs.length tc1, .slice ta2 x.t.os.length tc2, .slice ta3 x.t.ss.length tc3, .slice ta4 x.t.rs.length tc4] := (((((Blk.new _ _ _).kept (below_alloc _)).kept (below_alloc _)).kept (below_alloc _)).kept (below_alloc _)).kept hbx
    have B5 : Blk w1 (w.heap.size + 1) 35 #[.slice ka m.fs.length kc, .slice va m.us.length vc] := ((((Blk.newAt (by simp)).kept (below_alloc _)).kept (below_alloc _)).kept (below_alloc _)).kept hbx
    have B6 : Blk w1 (w.heap.size + 1 + 1) 72 #[.func (.func 30) #[] #[]] := (((Blk.newAt (by simp)).kept (below_alloc _)).kept (below_alloc _)).kept hbx
    have B7 : Blk w1 (w.heap.size + 1 + 1 + 1) 73 #[.func (.func 31) #[.agg #[.slice ta l.length tc]] #[]] := ((Blk.newAt (by simp)).kept (below_alloc _)).kept hbx
    have Br : Blk w1 (w.heap.size + 1 + 1 + 1 + 1) 35 #[.slice none 0 0, .slice none 0 0] := (Blk.newAt (by simp)).kept hbx
    have hbz : Hid (Below w.heap.size w w1) := hid (bl_then (by exact blBy) hbx)
    have hs1 : w.heap.size + 5 ≤ w1.heap.size := by have := hbx.size; simpa using this
    have hn2 : MsgE w1 (fun b => (Z b ∧ b < w.heap.size) ∨ w.heap.size + 5 ≤ b) (d + 1) ds sm := MsgE.go (Keep.refl (fun _ => True) w1) (fun _ _ => trivial) (fun b hz => by rcases hz with hz | hz; exact Or.inl hz; exact Or.inr (by simpa using hz)) (d + 1) _ _ hn
    obtain ⟨fa, fc, ua, uc, rfl, gF, gU, -⟩ := msg_open hn2
    have gF2 : FlsR ((w1.setCell ⟨w.heap.size + 1, 0, none⟩ (.slice fa sm.fs.length fc)).setCell ⟨w.heap.size + 1, 1, none⟩ (.slice ua sm.us.length uc)) (fun b => (Z b ∧ b < w.heap.size) ∨ w.heap.size + 5 ≤ b) d (.slice fa sm.fs.length fc) sm.fs := FlsR.go gF (f := (· ≠ w.heap.size + 1)) (kpS (kpS (Keep.refl _ _) (by simp)) (by simp)) (fun b hz => by rcases hz with hz | hz; have := hz.2; omega; omega) (fun _ h => h)
    have gU2 : EnsR ((w1.setCell ⟨w.heap.size + 1, 0, none⟩ (.slice fa sm.fs.length fc)).setCell ⟨w.heap.size + 1, 1, none⟩ (.slice ua sm.us.length uc)) (fun b => (Z b ∧ b < w.heap.size) ∨ w.heap.size + 5 ≤ b) (.slice ua sm.us.length uc) sm.us := EnsR.go gU (f := (· ≠ w.heap.size + 1)) (kpS (kpS (Keep.refl _ _) (by simp)) (by simp)) (fun b hz => by rcases hz with hz | hz; have := hz.2; omega; omega) (fun _ h => h)
    clear hbx HW hn hn2 gF gU
    have x5 := B5.cellF
    have y5 := B5.frz
    have z5 := B5.lt
    go_upto_region 3 with fail
    have BB : SeB l ta tc ((w1.setCell ⟨w.heap.size + 1, 0, none⟩ (.slice fa sm.fs.length fc)).setCell ⟨w.heap.size + 1, 1, none⟩ (.slice ua sm.us.length uc)) x w.heap.size (w.heap.size + 1 + 1) (w.heap.size + 1 + 1 + 1) := ⟨by rw [ecx]; exact (B4.other (by simp) _).other (by simp) _, (B6.other (by simp) _).other (by simp) _, (B7.other (by simp; omega) _).other (by simp; omega) _⟩
    replace B5 := (B5.set 0 (.slice fa sm.fs.length fc)).set 1 (.slice ua sm.us.length uc)
    replace Br := (Br.other (a := ⟨w.heap.size + 1, 0, none⟩) (by simp; omega) (.slice fa sm.fs.length fc)).other (a := ⟨w.heap.size + 1, 1, none⟩) (by simp; omega) (.slice ua sm.us.length uc)
    have HB : Hid (Below w.heap.size w ((w1.setCell ⟨w.heap.size + 1, 0, none⟩ (.slice fa sm.fs.length fc)).setCell ⟨w.heap.size + 1, 1, none⟩ (.slice ua sm.us.length uc))) := hid (by have := hbz.out; exact blBy)
    have HS : Hid (w.heap.size + 5 ≤ ((w1.setCell ⟨w.heap.size + 1, 0, none⟩ (.slice fa sm.fs.length fc)).setCell ⟨w.heap.size + 1, 1, none⟩ (.slice ua sm.us.length uc)).heap.size) := hid (by simpa using hs1)
    clear x5 y5 z5 B4 B6 B7 hs1 hbz
    generalize ((w1.setCell ⟨w.heap.size + 1, 0, none⟩ (.slice fa sm.fs.length fc)).setCell ⟨w.heap.size + 1, 1, none⟩ (.slice ua sm.us.length uc)) = W at *
    have HT : Hid (∀ (W' : World), Below W.heap.size W W' → Calls Tryz.prog 65 #[.slice fa sm.fs.length fc, .func (.func 59) #[] #[.pointer (some ⟨w.heap.size + 1 + 1 + 1, 0, none⟩), .pointer (some ⟨w.heap.size, 0, none⟩), .pointer (some ⟨w.heap.size + 1 + 1, 0, none⟩)]] W' (NewL 3 (FmF d) W' (sm.fs.map (fun f => setF (setM l d (blwB l x f)) f)))) := hid fun W' hW' => turnedF W' (fun b => (Z b ∧ b < w.heap.size) ∨ w.heap.size + 5 ≤ b) d d sm.fs fa fc (gF2.kept hW') 59 #[.pointer (some ⟨w.heap.size + 1 + 1 + 1, 0, none⟩), .pointer (some ⟨w.heap.size, 0, none⟩), .pointer (some ⟨w.heap.size + 1 + 1, 0, none⟩)] cfFS (fun f => setF (setM l d (blwB l x f)) f) (fun W2 hW2 cs f hf hfe => newFieldS l ta tc d HC W2 (hT.kept (below_trans HB.out (below_trans hW' hW2))) hg x hx (fun b => (Z b ∧ b < w.heap.size) ∨ w.heap.size + 5 ≤ b) cs f (holdB_has hkA.1 (hin f hf)) (hkA.2 f (hin f hf)) hfe _ _ _ (BB.kept (below_trans hW' hW2)))
    have HE : Hid (∀ (W' : World), Below W.heap.size W W' → Calls Tryz.prog 66 #[.slice ua sm.us.length uc, .func (.func 67) #[] #[]] W' (NewL 4 FmE W' sm.us)) := hid fun W' hW' => by
      have := turnedE W' (fun b => (Z b ∧ b < w.heap.size) ∨ w.heap.size + 5 ≤ b) sm.us ua uc (gU2.kept hW') 67 #[] cfE id (fun W2 hW2 cs x _ hx => newEntryT W2 (fun b => (Z b ∧ b < w.heap.size) ∨ w.heap.size + 5 ≤ b) cs x hx)
      rw [List.map_id] at this
      exact this
    have HG : Hid (Below W.heap.size W W) := hid (Below.refl _ _)
    generalize sm.fs.map (fun f => setF (setM l d (blwB l x f)) f) = nf at *
    have f0 : W.cell? ⟨w.heap.size + 1, 0, none⟩ = some (.slice fa sm.fs.length fc) := B5.cell 0 _ (by simp)
    have f1 : W.cell? ⟨w.heap.size + 1, 1, none⟩ = some (.slice ua sm.us.length uc) := B5.cell 1 _ (by simp)
    have hp1 : w.heap.size + 1 ≠ w.heap.size + 1 + 1 + 1 + 1 := by omega
    have xr := Br.cellF
    have yr := Br.frz
    have zr := Br.lt
    clear B5 BB gF2 gU2 HC hkA hin hT hx hk hg
    go_region_held3 (fun W => W.cell? ⟨w.heap.size + 1, 0, none⟩ = some (.slice fa sm.fs.length fc) ∧ W.cell? ⟨w.heap.size + 1, 1, none⟩ = some (.slice ua sm.us.length uc)) (first | exact ⟨f0, f1⟩ | exact ⟨cs2 f0 hp1, cs2 f1 hp1⟩) (first | (go_at_call 65; refine (HT.out _ (by have := HG.out; exact blBy)).mono ?_; rintro e w2 ⟨a1, c1, rfl, hn, hbx⟩; replace f0 := cell_below f0 (below_trans (by first | exact Below.refl _ _ | exact below_drew1 _ | exact below_drewN _ _) hbx); replace f1 := cell_below f1 (below_trans (by first | exact Below.refl _ _ | exact below_drew1 _ | exact below_drewN _ _) hbx); replace Br := Br.kept (below_trans (by first | exact Below.refl _ _ | exact below_drew1 _ | exact below_drewN _ _) hbx); replace xr := Br.cellF; replace yr := Br.frz; replace zr := Br.lt; replace HB := hid (below_trans HB.out (below_trans (by first | exact Below.refl _ _ | exact below_drew1 _ | exact below_drewN _ _) hbx)); replace HG := hid (below_trans HG.out (below_trans (by first | exact Below.refl _ _ | exact below_drew1 _ | exact below_drewN _ _) hbx)); have H1 : Hid (FlsR w2 (w.heap.size + 5 ≤ ·) d (.slice a1 nf.length c1) nf) := hid (FlsR.go hn (Keep.refl (fun _ => True) w2) (fun _ _ => trivial) (fun k hk => Nat.le_trans HS.out hk)); (try replace H2 := hid (EnsR.kept H2.out (below_trans (by first | exact Below.refl _ _ | exact below_drew1 _ | exact below_drewN _ _) hbx))); replace HS := hid (Nat.le_trans HS.out (Below.size (below_trans (by first | exact Below.refl _ _ | exact below_drew1 _ | exact below_drewN _ _) hbx))); clear hn hbx) | (go_at_call 66; refine (HE.out _ (by have := HG.out; exact blBy)).mono ?_; rintro e w3 ⟨a2, c2, rfl, hn, hbx⟩; replace f0 := cell_below f0 (below_trans (by first | exact Below.refl _ _ | exact below_drew1 _ | exact below_drewN _ _) hbx); replace f1 := cell_below f1 (below_trans (by first | exact Below.refl _ _ | exact below_drew1 _ | exact below_drewN _ _) hbx); replace Br := Br.kept (below_trans (by first | exact Below.refl _ _ | exact below_drew1 _ | exact below_drewN _ _) hbx); replace xr := Br.cellF; replace yr := Br.frz; replace zr := Br.lt; replace HB := hid (below_trans HB.out (below_trans (by first | exact Below.refl _ _ | exact below_drew1 _ | exact below_drewN _ _) hbx)); replace HG := hid (below_trans HG.out (below_trans (by first | exact Below.refl _ _ | exact below_drew1 _ | exact below_drewN _ _) hbx)); have H2 : Hid (EnsR w3 (w.heap.size + 5 ≤ ·) (.slice a2 sm.us.length c2) sm.us) := hid (EnsR.go hn (Keep.refl (fun _ => True) w3) (fun _ _ => trivial) (fun k hk => Nat.le_trans HS.out hk)); (try replace H1 := hid (FlsR.kept H1.out (below_trans (by first | exact Below.refl _ _ | exact below_drew1 _ | exact below_drewN _ _) hbx))); replace HS := hid (Nat.le_trans HS.out (Below.size (below_trans (by first | exact Below.refl _ _ | exact below_drew1 _ | exact below_drewN _ _) hbx))); clear hn hbx))
    all_goals go_wp2
    all_goals exact bodyPost_ret (v := .agg #[.slice a1 nf.length c1, .slice a2 sm.us.length c2]) (by simp [results, Tryz.results29, go_sem, xr, zr, yr]) rfl (NewE.mk [.slice a1 nf.length c1, .slice a2 sm.us.length c2] (by rw [HSM.out]; exact ⟨_, _, rfl, FlsR.go H1.out (f := (w.heap.size + 5 ≤ ·)) (by with_reducible repeat (first | exact Keep.refl _ _ | refine kpS ?_ (by first | (simp; done) | (simp; omega) | omega) | refine kpA ?_ _ | refine kpD ?_ | refine kpN ?_ _)) (fun _ h => h) (fun k hk => by omega), EnsR.go H2.out (f := (w.heap.size + 5 ≤ ·)) (by with_reducible repeat (first | exact Keep.refl _ _ | refine kpS ?_ (by first | (simp; done) | (simp; omega) | omega) | refine kpA ?_ _ | refine kpD ?_ | refine kpN ?_ _)) (fun _ h => h) (fun k hk => by omega)⟩) (by have := HB.out; exact blBy))
theorem typedAtOk (w : World) (l : List TV) (ta : Option Addr) (tc : Nat) (h : TbR w (.slice ta l.length tc) l) (hk : ∀ x ∈ l, OkV x) (mx : Int) (hm0 : w.cell? ⟨0, 0, none⟩ = some (.int .i64 mx)) (k : Nat) (hkl : k < l.length) (hg : goodB l = true) (he : l[k].t.enum = false) (Z : Nat → Prop) (d : Nat) (cs : List Value) (m : CM) (hm : MsgE w Z d cs m) (hq : keptB l d l[k] m = true) : Calls Tryz.prog 28 #[.agg #[.slice ta l.length tc], .int .i64 (k : Int), .agg cs.toArray] w fun e w' => e = .returned (.tuple #[.agg #[.string (strOfNums l[k].t.name), .bool false, l[k].f, l[k].o, l[k].s, l[k].r], .agg #[.slice ta l.length tc], .int .i64 0]) ∧ Below w.heap.size w w' := by
  have HA := hid fun W (hW : Below w.heap.size w W) => msgAtOk W l ta tc (h.kept hW) hk mx (cell_below hm0 hW) k hkl hg he
  have HK := hid fun W (hW : Below w.heap.size w W) => areKeptT W l ta tc (h.kept hW) hg l[k] (List.getElem_mem hkl) Z d cs m (hm.kept hW)
  obtain ⟨ta1, tc1, ta2, tc2, ta3, tc3, ta4, tc4, e1, e2, e3, e4⟩ := shT_of (h.ty l[k] (List.getElem_mem hkl))
  have ec : cTV l[k] = [.string (strOfNums l[k].t.name), .bool false, .slice ta1 l[k].t.fs.length tc1, .slice ta2 l[k].t.os.length tc2, .slice ta3 l[k].t.ss.length tc3, .slice ta4 l[k].t.rs.length tc4] := by unfold cTV; rw [e1, e2, e3, e4, he]
  obtain ⟨fa, fc, ua, uc, rfl, -⟩ := msg_openD hm
  rw [ec] at HK
  rw [e1, e2, e3, e4] at HA
  rw [hq] at HK
  rw [e1, e2, e3, e4]
  clear h hg hm e1 e2 e3 e4 ec hm0 hk he hq
  generalize l[k] = x at *
  go_enter Tryz.func28, Tryz.ntmps28
  go_wp2_with fail
  refine (HA.out _ (by exact blBy)).mono ?_
  rintro e w1 ⟨rfl, hb1⟩
  have HB1 : Hid (Below w.heap.size w w1) := hid (bl_then (by exact blBy) hb1)
  have Bt : Blk w1 w.heap.size 46 #[.slice ta l.length tc] := ((((Blk.new _ _ _).kept (below_alloc _)).kept (below_alloc _)).kept (below_alloc _)).kept hb1
  have Bm : Blk w1 (w.heap.size + 1) 35 #[.slice fa m.fs.length fc, .slice ua m.us.length uc] := (((Blk.newAt (by simp)).kept (below_alloc _)).kept (below_alloc _)).kept hb1
  have Br5 : Blk w1 (w.heap.size + 1 + 1) 66 #[.string ⟨#[]⟩, .bool false, .slice none 0 0, .slice none 0 0, .slice none 0 0, .slice none 0 0] := ((Blk.newAt (by simp)).kept (below_alloc _)).kept hb1
  have Br6 : Blk w1 (w.heap.size + 1 + 1 + 1) 68 #[.slice none 0 0] := (Blk.newAt (by simp)).kept hb1
  have xt := Bt.cellF
  have zt := Bt.lt
  have xm := Bm.cellF
  have zm := Bm.lt
  have xr5 := Br5.cellF
  have yr5 := Br5.frz
  have zr5 := Br5.lt
  have xr6 := Br6.cellF
  have yr6 := Br6.frz
  have zr6 := Br6.lt
  clear HA
  go_wp2_with fail
  refine (HK.out _ (by have := HB1.out; exact blBy)).mono ?_
  rintro e w2 ⟨rfl, hb2⟩
  have HB2 : Hid (Below w.heap.size w w2) := hid (bl_then (by have := HB1.out; exact blBy) hb2)
  have hz2 : Below w1.heap.size w1 w2 := bl_then (by exact blBy) hb2
  have Bx2 : Blk w2 w1.heap.size 66 #[.string (strOfNums x.t.name), .bool false, .slice ta1 x.t.fs.length tc1, .slice ta2 x.t.os.length tc2, .slice ta3 x.t.ss.length tc3, .slice ta4 x.t.rs.length tc4] := ((Blk.new _ _ _).kept (below_alloc _)).kept hb2
  have Bq2 : Blk w2 (w1.heap.size + 1) 68 #[.slice ta l.length tc] := (Blk.newAt (by simp)).kept hb2
  replace Br5 := Br5.kept hz2
  replace Br6 := Br6.kept hz2
  replace xr5 := Br5.cellF
  replace yr5 := Br5.frz
  replace zr5 := Br5.lt
  replace xr6 := Br6.cellF
  replace yr6 := Br6.frz
  replace zr6 := Br6.lt
  have xx2 := Bx2.cellF
  have zx2 := Bx2.lt
  have xq2 := Bq2.cellF
  have zq2 := Bq2.lt
  have hs1 : w.heap.size + 4 ≤ w1.heap.size := by have := hb1.size; simpa using this
  have n1 : w1.heap.size + 1 ≠ w.heap.size + 1 + 1 := by omega
  have n2 : w1.heap.size ≠ w.heap.size + 1 + 1 := by omega
  have n3 : w1.heap.size + 1 ≠ w.heap.size + 1 + 1 + 1 := by omega
  have n4 : w1.heap.size ≠ w.heap.size + 1 + 1 + 1 := by omega
  have n5 : w.heap.size + 1 + 1 ≠ w.heap.size + 1 + 1 + 1 := by omega
  clear hb2 hz2 HK xt zt xm zm
  go_wp2
  go_region
  all_goals (try go_wp2)
  all_goals exact bodyPost_ret (v := .tuple #[.agg #[.string (strOfNums x.t.name), .bool false, .slice ta1 x.t.fs.length tc1, .slice ta2 x.t.os.length tc2, .slice ta3 x.t.ss.length tc3, .slice ta4 x.t.rs.length tc4], .agg #[.slice ta l.length tc], .int .i64 0]) (by simp [results, Tryz.results28, go_sem, xr5, yr5, zr5, xr6, yr6, zr6]) rfl ⟨rfl, by have := HB2.out; exact blBy⟩
theorem typedAtBad (w : World) (l : List TV) (ta : Option Addr) (tc : Nat) (h : TbR w (.slice ta l.length tc) l) (hk : ∀ x ∈ l, OkV x) (mx : Int) (hm0 : w.cell? ⟨0, 0, none⟩ = some (.int .i64 mx)) (k : Nat) (hkl : k < l.length) (hg : goodB l = true) (he : l[k].t.enum = false) (Z : Nat → Prop) (d : Nat) (cs : List Value) (m : CM) (hm : MsgE w Z d cs m) (hq : keptB l d l[k] m = false) : Calls Tryz.prog 28 #[.agg #[.slice ta l.length tc], .int .i64 (k : Int), .agg cs.toArray] w fun e w' => e = .returned (.tuple #[.agg #[.string ⟨#[]⟩, .bool false, .slice none 0 0, .slice none 0 0, .slice none 0 0, .slice none 0 0], .agg #[.slice none 0 0], .int .i64 10]) ∧ Below w.heap.size w w' := by
  have HA := hid fun W (hW : Below w.heap.size w W) => msgAtOk W l ta tc (h.kept hW) hk mx (cell_below hm0 hW) k hkl hg he
  have HK := hid fun W (hW : Below w.heap.size w W) => areKeptT W l ta tc (h.kept hW) hg l[k] (List.getElem_mem hkl) Z d cs m (hm.kept hW)
  obtain ⟨ta1, tc1, ta2, tc2, ta3, tc3, ta4, tc4, e1, e2, e3, e4⟩ := shT_of (h.ty l[k] (List.getElem_mem hkl))
  have ec : cTV l[k] = [.string (strOfNums l[k].t.name), .bool false, .slice ta1 l[k].t.fs.length tc1, .slice ta2 l[k].t.os.length tc2, .slice ta3 l[k].t.ss.length tc3, .slice ta4 l[k].t.rs.length tc4] := by unfold cTV; rw [e1, e2, e3, e4, he]
  obtain ⟨fa, fc, ua, uc, rfl, -⟩ := msg_openD hm
  rw [ec] at HK
  rw [e1, e2, e3, e4] at HA
  rw [hq] at HK
  clear h hg hm e1 e2 e3 e4 ec hm0 hk he hq
  generalize l[k] = x at *
  go_enter Tryz.func28, Tryz.ntmps28
  go_wp2_with fail
  refine (HA.out _ (by exact blBy)).mono ?_
  rintro e w1 ⟨rfl, hb1⟩
  have HB1 : Hid (Below w.heap.size w w1) := hid (bl_then (by exact blBy) hb1)
  have Bt : Blk w1 w.heap.size 46 #[.slice ta l.length tc] := ((((Blk.new _ _ _).kept (below_alloc _)).kept (below_alloc _)).kept (below_alloc _)).kept hb1
  have Bm : Blk w1 (w.heap.size + 1) 35 #[.slice fa m.fs.length fc, .slice ua m.us.length uc] := (((Blk.newAt (by simp)).kept (below_alloc _)).kept (below_alloc _)).kept hb1
  have Br5 : Blk w1 (w.heap.size + 1 + 1) 66 #[.string ⟨#[]⟩, .bool false, .slice none 0 0, .slice none 0 0, .slice none 0 0, .slice none 0 0] := ((Blk.newAt (by simp)).kept (below_alloc _)).kept hb1
  have Br6 : Blk w1 (w.heap.size + 1 + 1 + 1) 68 #[.slice none 0 0] := (Blk.newAt (by simp)).kept hb1
  have xt := Bt.cellF
  have zt := Bt.lt
  have xm := Bm.cellF
  have zm := Bm.lt
  have xr5 := Br5.cellF
  have yr5 := Br5.frz
  have zr5 := Br5.lt
  have xr6 := Br6.cellF
  have yr6 := Br6.frz
  have zr6 := Br6.lt
  clear HA
  go_wp2_with fail
  refine (HK.out _ (by have := HB1.out; exact blBy)).mono ?_
  rintro e w2 ⟨rfl, hb2⟩
  have HB2 : Hid (Below w.heap.size w w2) := hid (bl_then (by have := HB1.out; exact blBy) hb2)
  have hz2 : Below w1.heap.size w1 w2 := bl_then (by exact blBy) hb2
  have Bx2 : Blk w2 w1.heap.size 66 #[.string (strOfNums x.t.name), .bool false, .slice ta1 x.t.fs.length tc1, .slice ta2 x.t.os.length tc2, .slice ta3 x.t.ss.length tc3, .slice ta4 x.t.rs.length tc4] := ((Blk.new _ _ _).kept (below_alloc _)).kept hb2
  have Bq2 : Blk w2 (w1.heap.size + 1) 68 #[.slice ta l.length tc] := (Blk.newAt (by simp)).kept hb2
  replace Br5 := Br5.kept hz2
  replace Br6 := Br6.kept hz2
  replace xr5 := Br5.cellF
  replace yr5 := Br5.frz
  replace zr5 := Br5.lt
  replace xr6 := Br6.cellF
  replace yr6 := Br6.frz
  replace zr6 := Br6.lt
  have xx2 := Bx2.cellF
  have zx2 := Bx2.lt
  have xq2 := Bq2.cellF
  have zq2 := Bq2.lt
  have hs1 : w.heap.size + 4 ≤ w1.heap.size := by have := hb1.size; simpa using this
  have n1 : w1.heap.size + 1 ≠ w.heap.size + 1 + 1 := by omega
  have n2 : w1.heap.size ≠ w.heap.size + 1 + 1 := by omega
  have n3 : w1.heap.size + 1 ≠ w.heap.size + 1 + 1 + 1 := by omega
  have n4 : w1.heap.size ≠ w.heap.size + 1 + 1 + 1 := by omega
  have n5 : w.heap.size + 1 + 1 ≠ w.heap.size + 1 + 1 + 1 := by omega
  clear hb2 hz2 HK xt zt xm zm
  go_wp2
  all_goals (try go_wp2)
  all_goals exact bodyPost_ret (v := .tuple #[.agg #[.string ⟨#[]⟩, .bool false, .slice none 0 0, .slice none 0 0, .slice none 0 0, .slice none 0 0], .agg #[.slice none 0 0], .int .i64 10]) (by simp [results, Tryz.results28, go_sem, xr5, yr5, zr5, xr6, yr6, zr6]) rfl ⟨rfl, by have := HB2.out; exact blBy⟩
theorem typedAtNo (w : World) (l : List TV) (ta : Option Addr) (tc : Nat) (h : TbR w (.slice ta l.length tc) l) (hk : ∀ x ∈ l, OkV x) (mx : Int) (hm0 : w.cell? ⟨0, 0, none⟩ = some (.int .i64 mx)) (idx : Int) (hno : isB l idx false = false) (fa ua : Option Addr) (fn fc un uc : Nat) : Calls Tryz.prog 28 #[.agg #[.slice ta l.length tc], .int .i64 idx, .agg #[.slice fa fn fc, .slice ua un uc]] w fun e w' => e = .returned (.tuple #[.agg #[.string ⟨#[]⟩, .bool false, .slice none 0 0, .slice none 0 0, .slice none 0 0, .slice none 0 0], .agg #[.slice none 0 0], .int .i64 18]) ∧ Below w.heap.size w w' := by
  have HA := hid fun W (hW : Below w.heap.size w W) => msgAtNo W l ta tc (h.kept hW) hk mx (cell_below hm0 hW) idx hno
  clear h hm0 hk hno
  go_enter Tryz.func28, Tryz.ntmps28
  go_wp2_with fail
  refine (HA.out _ (by exact blBy)).mono ?_
  rintro e w1 ⟨rfl, hb1⟩
  have HB1 : Hid (Below w.heap.size w w1) := hid (bl_then (by exact blBy) hb1)
  have Br5 : Blk w1 (w.heap.size + 1 + 1) 66 #[.string ⟨#[]⟩, .bool false, .slice none 0 0, .slice none 0 0, .slice none 0 0, .slice none 0 0] := ((Blk.newAt (by simp)).kept (below_alloc _)).kept hb1
  have Br6 : Blk w1 (w.heap.size + 1 + 1 + 1) 68 #[.slice none 0 0] := (Blk.newAt (by simp)).kept hb1
  have xr5 := Br5.cellF
  have yr5 := Br5.frz
  have zr5 := Br5.lt
  have xr6 := Br6.cellF
  have yr6 := Br6.frz
  have zr6 := Br6.lt
  clear hb1 HA
  go_wp2
  exact bodyPost_ret (v := .tuple #[.agg #[.string ⟨#[]⟩, .bool false, .slice none 0 0, .slice none 0 0, .slice none 0 0, .slice none 0 0], .agg #[.slice none 0 0], .int .i64 18]) (by simp [results, Tryz.results28, go_sem, xr5, yr5, zr5, xr6, yr6, zr6]) rfl ⟨rfl, by have := HB1.out; exact blBy⟩
theorem settleOk (w : World) (l : List TV) (ta : Option Addr) (tc : Nat) (h : TbR w (.slice ta l.length tc) l) (hk : ∀ x ∈ l, OkV x) (mx : Int) (hm0 : w.cell? ⟨0, 0, none⟩ = some (.int .i64 mx)) (k : Nat) (hkl : k < l.length) (hg : goodB l = true) (he : l[k].t.enum = false) (Z : Nat → Prop) (d : Nat) (cs : List Value) (m : CM) (hm : MsgE w Z d cs m) (hq : keptB l d l[k] m = true) : Calls Tryz.prog 13 #[.agg #[.slice ta l.length tc], .int .i64 (k : Int), .agg cs.toArray] w fun e w' => ∃ ds : List Value, e = .returned (.tuple #[.agg ds.toArray, .int .i64 0]) ∧ MsgE w' (w.heap.size ≤ ·) d ds (setM l d l[k] m) ∧ Below w.heap.size w w' := by
  have HA := hid fun W (hW : Below w.heap.size w W) => typedAtOk W l ta tc (h.kept hW) hk mx (cell_below hm0 hW) k hkl hg he Z d cs m (hm.kept hW) hq
  have HR := hid fun W (hW : Below w.heap.size w W) => rebuiltS l ta tc hg d W Z l[k] cs m (h.kept hW) (List.getElem_mem hkl) hq (hm.kept hW)
  obtain ⟨ta1, tc1, ta2, tc2, ta3, tc3, ta4, tc4, e1, e2, e3, e4⟩ := shT_of (h.ty l[k] (List.getElem_mem hkl))
  have ec : cTV l[k] = [.string (strOfNums l[k].t.name), .bool false, .slice ta1 l[k].t.fs.length tc1, .slice ta2 l[k].t.os.length tc2, .slice ta3 l[k].t.ss.length tc3, .slice ta4 l[k].t.rs.length tc4] := by unfold cTV; rw [e1, e2, e3, e4, he]
  obtain ⟨fa, fc, ua, uc, rfl, -⟩ := msg_openD hm
  rw [ec] at HR
  rw [e1, e2, e3, e4] at HA
  clear h hg hm e1 e2 e3 e4 ec hm0 hk he hq
  generalize setM l d l[k] m = sm at *
  generalize l[k] = x at *
  go_enter Tryz.func13, Tryz.ntmps13
  go_wp2_with fail
  refine (HA.out _ (by exact blBy)).mono ?_
  rintro e w1 ⟨rfl, hb1⟩
  have HB1 : Hid (Below w.heap.size w w1) := hid (bl_then (by exact blBy) hb1)
  have Bm : Blk w1 (w.heap.size + 1) 35 #[.slice fa m.fs.length fc, .slice ua m.us.length uc] := ((Blk.newAt (by simp)).kept (below_alloc _)).kept hb1
  have Br : Blk w1 (w.heap.size + 1 + 1) 35 #[.slice none 0 0, .slice none 0 0] := (Blk.newAt (by simp)).kept hb1
  have hs1 : Hid (w.heap.size + 3 ≤ w1.heap.size) := hid (by have := hb1.size; simpa using this)
  have xm := Bm.cellF
  have zm := Bm.lt
  have zt1 : w.heap.size < w1.heap.size := by have := hb1.size; simp at this; omega
  have zm1 : w.heap.size + 1 < w1.heap.size := by have := hb1.size; simp at this; omega
  clear HA hb1
  go_wp2_with fail
  refine (HR.out _ (by have := HB1.out; exact blBy)).mono ?_
  rintro e w2 ⟨ds, rfl, hn, hb2⟩
  have HB2 : Hid (Below w.heap.size w w2) := hid (bl_then (by have := HB1.out; exact blBy) hb2)
  have hz2 : Below w1.heap.size w1 w2 := bl_then (by exact blBy) hb2
  have HN : Hid (MsgE w2 (w.heap.size + 3 ≤ ·) d ds sm) := hid (MsgE.go (Keep.refl (fun _ => True) w2) (fun _ _ => trivial) (fun k hk => by have := hs1.out; simp at hk; omega) d _ _ hn)
  replace Br := Br.kept hz2
  have xr := Br.cellF
  have yr := Br.frz
  have zr := Br.lt
  clear hb2 hz2 hn HR xm zm
  obtain ⟨na, nc, va, vc, rfl, -⟩ := msg_openD HN.out
  go_wp2
  exact bodyPost_ret (v := .tuple #[.agg #[.slice na sm.fs.length nc, .slice va sm.us.length vc], .int .i64 0]) (by simp [results, Tryz.results13, go_sem, xr, yr, zr, zt1, zm1]) rfl ⟨[.slice na sm.fs.length nc, .slice va sm.us.length vc], rfl, MsgE.go (f := (w.heap.size + 3 ≤ ·)) (by with_reducible repeat (first | exact Keep.refl _ _ | refine kpS ?_ (by first | (simp; done) | (simp; omega) | omega) | refine kpA ?_ _ | refine kpD ?_ | refine kpN ?_ _)) (fun _ h => h) (fun k hk => by omega) d _ _ HN.out, by have := HB2.out; exact blBy⟩
theorem settleBad (w : World) (l : List TV) (ta : Option Addr) (tc : Nat) (h : TbR w (.slice ta l.length tc) l) (hk : ∀ x ∈ l, OkV x) (mx : Int) (hm0 : w.cell? ⟨0, 0, none⟩ = some (.int .i64 mx)) (k : Nat) (hkl : k < l.length) (hg : goodB l = true) (he : l[k].t.enum = false) (Z : Nat → Prop) (d : Nat) (cs : List Value) (m : CM) (hm : MsgE w Z d cs m) (hq : keptB l d l[k] m = false) : Calls Tryz.prog 13 #[.agg #[.slice ta l.length tc], .int .i64 (k : Int), .agg cs.toArray] w fun e w' => e = .returned (.tuple #[.agg #[.slice none 0 0, .slice none 0 0], .int .i64 10]) ∧ Below w.heap.size w w' := by
  have HA := hid fun W (hW : Below w.heap.size w W) => typedAtBad W l ta tc (h.kept hW) hk mx (cell_below hm0 hW) k hkl hg he Z d cs m (hm.kept hW) hq
  obtain ⟨fa, fc, ua, uc, rfl, -⟩ := msg_openD hm
  clear h hg hm hm0 hk he hq
  go_enter Tryz.func13, Tryz.ntmps13
  go_wp2_with fail
  refine (HA.out _ (by exact blBy)).mono ?_
  rintro e w1 ⟨rfl, hb1⟩
  have HB1 : Hid (Below w.heap.size w w1) := hid (bl_then (by exact blBy) hb1)
  have Br : Blk w1 (w.heap.size + 1 + 1) 35 #[.slice none 0 0, .slice none 0 0] := (Blk.newAt (by simp)).kept hb1
  have xr := Br.cellF
  have yr := Br.frz
  have zr := Br.lt
  have zt1 : w.heap.size < w1.heap.size := by have := hb1.size; simp at this; omega
  have zm1 : w.heap.size + 1 < w1.heap.size := by have := hb1.size; simp at this; omega
  clear HA hb1
  go_wp2
  exact bodyPost_ret (v := .tuple #[.agg #[.slice none 0 0, .slice none 0 0], .int .i64 10]) (by simp [results, Tryz.results13, go_sem, xr, yr, zr, zt1, zm1]) rfl ⟨rfl, by have := HB1.out; exact blBy⟩
theorem settleNo (w : World) (l : List TV) (ta : Option Addr) (tc : Nat) (h : TbR w (.slice ta l.length tc) l) (hk : ∀ x ∈ l, OkV x) (mx : Int) (hm0 : w.cell? ⟨0, 0, none⟩ = some (.int .i64 mx)) (idx : Int) (hno : isB l idx false = false) (fa ua : Option Addr) (fn fc un uc : Nat) : Calls Tryz.prog 13 #[.agg #[.slice ta l.length tc], .int .i64 idx, .agg #[.slice fa fn fc, .slice ua un uc]] w fun e w' => e = .returned (.tuple #[.agg #[.slice none 0 0, .slice none 0 0], .int .i64 18]) ∧ Below w.heap.size w w' := by
  have HA := hid fun W (hW : Below w.heap.size w W) => typedAtNo W l ta tc (h.kept hW) hk mx (cell_below hm0 hW) idx hno fa ua fn fc un uc
  clear h hm0 hk hno
  go_enter Tryz.func13, Tryz.ntmps13
  go_wp2_with fail
  refine (HA.out _ (by exact blBy)).mono ?_
  rintro e w1 ⟨rfl, hb1⟩
  have HB1 : Hid (Below w.heap.size w w1) := hid (bl_then (by exact blBy) hb1)
  have Br : Blk w1 (w.heap.size + 1 + 1) 35 #[.slice none 0 0, .slice none 0 0] := (Blk.newAt (by simp)).kept hb1
  have xr := Br.cellF
  have yr := Br.frz
  have zr := Br.lt
  have zt1 : w.heap.size < w1.heap.size := by have := hb1.size; simp at this; omega
  have zm1 : w.heap.size + 1 < w1.heap.size := by have := hb1.size; simp at this; omega
  clear HA hb1
  go_wp2
  exact bodyPost_ret (v := .tuple #[.agg #[.slice none 0 0, .slice none 0 0], .int .i64 18]) (by simp [results, Tryz.results13, go_sem, xr, yr, zr, zt1, zm1]) rfl ⟨rfl, by have := HB1.out; exact blBy⟩
theorem map_self {α : Type} {f : α → α} : ∀ {l : List α}, (∀ a ∈ l, f a = a) → l.map f = l
  | [], _ => rfl
  | a :: r, h => by
    rw [List.map_cons, h a List.mem_cons_self, map_self (fun b hb => h b (List.mem_cons_of_mem _ hb))]
theorem self_map {α : Type} {f : α → α} : ∀ {l : List α}, l.map f = l → ∀ a ∈ l, f a = a
  | [], _, a, ha => by simp at ha
  | b :: r, h, a, ha => by
    rw [List.map_cons, List.cons.injEq] at h
    rcases List.mem_cons.1 ha with rfl | ha
    · exact h.1
    · exact self_map h.2 a ha
theorem filter_full {α : Type} {p : α → Bool} : ∀ {l : List α}, (l.filter p).length = l.length → l.filter p = l
  | [], _ => rfl
  | a :: r, h => by
    have h1 := List.length_filter_le p r
    rw [List.filter_cons] at h ⊢
    cases hp : p a with
    | true =>
      rw [hp] at h
      simp only [if_true, List.length_cons] at h ⊢
      rw [filter_full (by omega)]
    | false =>
      rw [hp] at h
      simp at h
      omega
/-- Normal is: settling changes nothing. -/
theorem norm_iff (l : List TV) : ∀ (d : Nat) (x : TV) (m : CM), walkB setB (blwB l) d x m = true ↔ setM l d x m = m
  | 0, x, m => ⟨fun _ => rfl, fun _ => rfl⟩
  | d + 1, x, m => by
    unfold walkB setM
    simp only [Bool.and_eq_true, List.all_eq_true]
    constructor
    · rintro ⟨h1, h2⟩
      unfold setB at h1
      simp only [Bool.and_eq_true, beq_iff_eq] at h1
      rw [filter_full (by omega : (m.fs.filter (toldB x.t.fs)).length = m.fs.length), filter_full (by omega : (m.us.filter (untk x.t.fs)).length = m.us.length)]
      refine CM.ext (map_self fun f hf => ?_) rfl
      have h3 : ∀ z ∈ allM f, setM l d (blwB l x f) z = z := fun z hz => (norm_iff l d _ _).1 (h2 f hf z hz)
      obtain ⟨n, ks, vs⟩ := f
      unfold setF
      congr 1
      · refine map_self fun v hv => ?_
        obtain ⟨vn, vb, vm⟩ := v
        unfold setV
        congr 1
        exact map_self fun z hz => h3 z (List.mem_append_left _ (List.mem_flatMap.2 ⟨_, hv, hz⟩))
      · refine map_self fun v hv => ?_
        obtain ⟨vn, vb, vm⟩ := v
        unfold setV
        congr 1
        exact map_self fun z hz => h3 z (List.mem_append_right _ (List.mem_flatMap.2 ⟨_, hv, hz⟩))
    · intro h
      have e1 : (m.fs.filter (toldB x.t.fs)).map (fun f => setF (setM l d (blwB l x f)) f) = m.fs := congrArg CM.fs h
      have e2 : m.us.filter (untk x.t.fs) = m.us := congrArg CM.us h
      have e3 := congrArg List.length e1
      rw [List.length_map] at e3
      have e4 := filter_full e3
      rw [e4] at e1
      have e5 := self_map e1
      refine ⟨?_, fun f hf z hz => (norm_iff l d _ _).2 ?_⟩
      · unfold setB
        rw [e4, e2]
        simp
      · have e6 := e5 f hf
        have ek := congrArg CF.ks e6
        have ev := congrArg CF.vs e6
        rcases List.mem_append.1 hz with hz | hz
        · obtain ⟨v, hv, hz⟩ := List.mem_flatMap.1 hz
          exact self_map (congrArg CV.ms (self_map ek v hv)) z hz
        · obtain ⟨v, hv, hz⟩ := List.mem_flatMap.1 hz
          exact self_map (congrArg CV.ms (self_map ev v hv)) z hz
theorem setF_num (g : CM → CM) (f : CF CM) : (setF g f).num = f.num := rfl
theorem allM_set (g : CM → CM) (f : CF CM) : allM (setF g f) = (allM f).map g := by
  have h : ∀ l : List (CV CM), (l.map (setV g)).flatMap CV.ms = (l.flatMap CV.ms).map g := fun l => by
    induction l with
    | nil => rfl
    | cons a r ih => rw [List.map_cons, List.flatMap_cons, List.flatMap_cons, ih, List.map_append]; rfl
  unfold allM
  rw [List.map_append, ← h, ← h]
  rfl
theorem told_set (fs : List FT) (g : CM → CM) (f : CF CM) : toldB fs (setF g f) = toldB fs f := by
  unfold toldB toldO
  rw [setF_num]
  obtain ⟨n, ks, vs⟩ := f
  cases vs with
  | nil => rfl
  | cons v r => simp [setF, setV, defV]
theorem valB_set (l : List TV) (o : FT) (g : CM → CM) (v : CV CM) : valB l o (setV g v) = valB l o v := by
  unfold valB scalarB setV
  simp only [List.length_map]
theorem scalarB_set (k : Int) (g : CM → CM) (v : CV CM) : scalarB k (setV g v) = scalarB k v := by
  unfold scalarB setV
  simp only [List.length_map]
theorem keys_set (k : Int) (g : CM → CM) (ks : List (CV CM)) : keysB k (ks.map (setV g)) = keysB k ks := by
  rw [Bool.eq_iff_iff, keysB_iff, keysB_iff]
  have e : ∀ a b : CV CM, keyLt k (setV g a) (setV g b) = keyLt k a b := fun a b => by
    unfold keyLt setV
    simp only [List.length_map]
  constructor
  · intro h i hi
    have := h i (by rw [List.length_map]; exact hi)
    rw [List.getElem_map, List.getElem_map, e] at this
    exact this
  · intro h i hi
    rw [List.length_map] at hi
    rw [List.getElem_map, List.getElem_map, e]
    exact h i hi
theorem all_map' {α β : Type} (g : α → β) (P : β → Bool) : ∀ l : List α, (l.map g).all P = l.all (fun a => P (g a))
  | [] => rfl
  | a :: r => by rw [List.map_cons, List.all_cons, List.all_cons, all_map' g P r]
theorem field_set (l : List TV) (o : FT) (g : CM → CM) (f : CF CM) : fieldB l o (setF g f) = fieldB l o f := by
  unfold fieldB setF
  simp only [keys_set, all_map', valB_set, scalarB_set]
  congr 1
  unfold shapeB
  simp only [List.length_map]
theorem rise_of {l : List (CF CM)} (h : l.Pairwise (fun x y => x.num < y.num)) : riseM l = true := riseM_iff.2 fun i hi => List.pairwise_iff_getElem.1 h i (i + 1) (by omega) hi (by omega)
/-- What is settled is typed. -/
theorem set_kept (l : List TV) : ∀ (d : Nat) (x : TV) (m : CM), keptB l d x m = true → keptB l d x (setM l d x m) = true
  | 0, x, m, h => h
  | d + 1, x, m, h => by
    have hw : ∀ z : CM, keptB l (d + 1) x z = (holdB l entB x z && z.fs.all (fun f => (allM f).all (keptB l d (blwB l x f)))) := fun z => rfl
    obtain ⟨h1, h2⟩ := kept_all h
    unfold holdB at h1
    simp only [Bool.and_eq_true, List.all_eq_true] at h1
    obtain ⟨hr, ht, hs, hu⟩ := h1
    have hfs : (setM l (d + 1) x m).fs = (m.fs.filter (toldB x.t.fs)).map (fun f => setF (setM l d (blwB l x f)) f) := rfl
    have hus : (setM l (d + 1) x m).us = m.us.filter (untk x.t.fs) := rfl
    have hmem : ∀ f' ∈ (setM l (d + 1) x m).fs, ∃ f ∈ m.fs, f' = setF (setM l d (blwB l x f)) f := fun f' hf' => by
      rw [hfs] at hf'
      obtain ⟨f, hf, rfl⟩ := List.mem_map.1 hf'
      exact ⟨f, (List.mem_filter.1 hf).1, rfl⟩
    have hsub : ((m.fs.filter (toldB x.t.fs)).map (fun f => setF (setM l d (blwB l x f)) f)).map CF.num = (m.fs.filter (toldB x.t.fs)).map CF.num := by
      rw [List.map_map]
      rfl
    have hpw : ((m.fs.filter (toldB x.t.fs)).map (fun f => setF (setM l d (blwB l x f)) f)).Pairwise (fun a b => a.num < b.num) := by
      rw [List.pairwise_map]
      exact (rise_pairs hr).filter _
    rw [hw]
    unfold holdB
    simp only [Bool.and_eq_true, List.all_eq_true]
    refine ⟨⟨by rw [hfs]; exact rise_of hpw, fun f' hf' => ?_, ?_, fun e he => ?_⟩, fun f' hf' z hz => ?_⟩
    · obtain ⟨f, hf, rfl⟩ := hmem f' hf'
      have := ht f hf
      unfold typB8 at this ⊢
      rw [setF_num, field_set]
      exact this
    · unfold singleB at hs ⊢
      rw [single_pairs] at hs ⊢
      rw [hfs]
      refine ⟨fun y hy _ => rfl, ?_⟩
      rw [List.pairwise_map]
      exact hs.2.filter _
    · rw [hus] at he
      exact hu e (List.mem_filter.1 he).1
    · obtain ⟨f, hf, rfl⟩ := hmem f' hf'
      have hb : blwB l x (setF (setM l d (blwB l x f)) f) = blwB l x f := rfl
      rw [hb]
      rw [allM_set] at hz
      obtain ⟨z0, hz0, rfl⟩ := List.mem_map.1 hz
      exact set_kept l d _ z0 (h2 f hf z0 hz0)
/-- What is settled stays. -/
theorem set_idem (l : List TV) : ∀ (d : Nat) (x : TV) (m : CM), setM l d x (setM l d x m) = setM l d x m
  | 0, x, m => rfl
  | d + 1, x, m => by
    have hfs : (setM l (d + 1) x m).fs = (m.fs.filter (toldB x.t.fs)).map (fun f => setF (setM l d (blwB l x f)) f) := rfl
    have hus : (setM l (d + 1) x m).us = m.us.filter (untk x.t.fs) := rfl
    refine CM.ext ?_ ?_
    · show ((setM l (d + 1) x m).fs.filter (toldB x.t.fs)).map (fun f => setF (setM l d (blwB l x f)) f) = _
      have e1 : (setM l (d + 1) x m).fs.filter (toldB x.t.fs) = (setM l (d + 1) x m).fs := by
        rw [List.filter_eq_self]
        intro f' hf'
        rw [hfs] at hf'
        obtain ⟨f, hf, rfl⟩ := List.mem_map.1 hf'
        rw [told_set]
        exact (List.mem_filter.1 hf).2
      rw [e1]
      refine map_self fun f' hf' => ?_
      rw [hfs] at hf'
      obtain ⟨f, hf, rfl⟩ := List.mem_map.1 hf'
      have hb : blwB l x (setF (setM l d (blwB l x f)) f) = blwB l x f := rfl
      rw [hb]
      have hv : ∀ v : CV CM, setV (setM l d (blwB l x f)) (setV (setM l d (blwB l x f)) v) = setV (setM l d (blwB l x f)) v := fun v => by
        unfold setV
        congr 1
        rw [List.map_map]
        exact List.map_congr_left fun z _ => set_idem l d _ z
      unfold setF
      congr 1
      · rw [List.map_map]
        exact List.map_congr_left fun v _ => hv v
      · rw [List.map_map]
        exact List.map_congr_left fun v _ => hv v
    · show (setM l (d + 1) x m).us.filter (untk x.t.fs) = _
      rw [hus, List.filter_filter]
      congr 1
      funext e
      cases untk x.t.fs e <;> rfl
theorem mxL_mono {dm dm' : CM → Nat} {g : CM → CM} : ∀ (ms : List CM) {a a' : Nat}, a ≤ a' → (∀ z ∈ ms, dm (g z) ≤ dm' z) → mxL dm a (ms.map g) ≤ mxL dm' a' ms
  | [], a, a', h, _ => h
  | z :: r, a, a', h, hz => mxL_mono r (by have := hz z List.mem_cons_self; dsimp only; omega) (fun y hy => hz y (List.mem_cons_of_mem _ hy))
theorem depVs_mono {dm dm' : CM → Nat} {g : CM → CM} : ∀ (l : List (CV CM)) {a a' : Nat}, a ≤ a' → (∀ v ∈ l, ∀ z ∈ v.ms, dm (g z) ≤ dm' z) → depVs dm a (l.map (setV g)) ≤ depVs dm' a' l
  | [], a, a', h, _ => h
  | v :: r, a, a', h, hz => depVs_mono r (mxL_mono v.ms h (fun z hz' => hz v List.mem_cons_self z hz')) (fun y hy => hz y (List.mem_cons_of_mem _ hy))
theorem depFs_mono {dm : CM → Nat} {P : CF CM → Bool} {G : CF CM → CM → CM} (hG : ∀ f z, dm (G f z) ≤ dm z) : ∀ (l : List (CF CM)) {a a' : Nat}, a ≤ a' → ((l.filter P).map (fun f => setF (G f) f)).foldl (fun a f => max (max a (depVs dm 0 f.ks)) (depVs dm 0 f.vs)) a ≤ l.foldl (fun a f => max (max a (depVs dm 0 f.ks)) (depVs dm 0 f.vs)) a'
  | [], a, a', h => h
  | f :: r, a, a', h => by
    rw [List.filter_cons, List.foldl_cons]
    cases P f with
    | true =>
      rw [if_pos rfl, List.map_cons, List.foldl_cons]
      refine depFs_mono hG r ?_
      have h1 : depVs dm 0 (setF (G f) f).ks ≤ depVs dm 0 f.ks := depVs_mono f.ks (Nat.le_refl 0) (fun v _ z _ => hG f z)
      have h2 : depVs dm 0 (setF (G f) f).vs ≤ depVs dm 0 f.vs := depVs_mono f.vs (Nat.le_refl 0) (fun v _ z _ => hG f z)
      omega
    | false =>
      rw [if_neg (by simp)]
      refine depFs_mono hG r ?_
      omega
/-- What is settled is not deeper. -/
theorem set_depth (l : List TV) : ∀ (d : Nat) (x : TV) (m : CM), depM d (setM l d x m) ≤ depM d m
  | 0, x, m => Nat.le_refl _
  | d + 1, x, m => Nat.succ_le_succ (depFs_mono (P := toldB x.t.fs) (G := fun f => setM l d (blwB l x f)) (fun f z => set_depth l d _ z) m.fs (Nat.le_refl 0))
/-- A field at its place: ahead of the first whose number is greater. -/
def insM (f : CF CM) : List (CF CM) → List (CF CM)
  | [] => [f]
  | o :: r => if laterB f.num o = true then f :: o :: r else o :: insM f r
/-- A message with a field, without those that can't be beside it. -/
def withM (fs : List FT) (m : CM) (f : CF CM) : CM := CM.mk (insM f (m.fs.filter (stayB fs f.num))) m.us
theorem insM_mem (f : CF CM) : ∀ l : List (CF CM), f ∈ insM f l
  | [] => List.mem_cons_self
  | o :: r => by
    unfold insM
    split
    · exact List.mem_cons_self
    · exact List.mem_cons_of_mem _ (insM_mem f r)
theorem insM_filter {f : CF CM} {P : CF CM → Bool} (hf : P f = false) : ∀ l : List (CF CM), (insM f l).filter P = l.filter P
  | [] => by simp [insM, hf]
  | o :: r => by
    unfold insM
    split
    · rw [List.filter_cons, hf, if_neg (by simp)]
    · rw [List.filter_cons, List.filter_cons, insM_filter hf r]
theorem stay_self (fs : List FT) (f : CF CM) : stayB fs f.num f = false := by
  unfold stayB stayO
  simp
theorem with_again (fs : List FT) (m : CM) (f : CF CM) : withM fs (withM fs m f) f = withM fs m f := by
  refine CM.ext ?_ rfl
  show insM f ((insM f (m.fs.filter (stayB fs f.num))).filter (stayB fs f.num)) = insM f (m.fs.filter (stayB fs f.num))
  rw [insM_filter (stay_self fs f), List.filter_filter]
  congr 2
  funext o
  cases stayB fs f.num o <;> rfl
/-- Where the numbers rise, the field of a number is the one that is there. -/
theorem rise_find {l : List (CF CM)} (h : riseM l = true) {f : CF CM} (hf : f ∈ l) : l.find? (fun o => o.num == f.num) = some f := by
  cases hq : l.find? (fun o => o.num == f.num) with
  | none =>
    have := List.find?_eq_none.1 hq f hf
    simp at this
  | some o =>
    have h1 : o.num = f.num := by simpa using List.find?_some hq
    obtain ⟨i, hi, e1⟩ := List.mem_iff_getElem.1 (List.mem_of_find?_eq_some hq)
    obtain ⟨j, hj, e2⟩ := List.mem_iff_getElem.1 hf
    rcases Nat.lt_trichotomy i j with e | e | e
    · have := rise_lt h i j e hj
      rw [e1, e2] at this
      omega
    · subst e
      rw [← e1, ← e2]
    · have := rise_lt h j i e hi
      rw [e1, e2] at this
      omega
theorem with_find {l : List TV} {x : TV} {d : Nat} {fs : List FT} {m : CM} {f : CF CM} (h : keptB l (d + 1) x (withM fs m f) = true) : (withM fs m f).fs.find? (fun o => o.num == f.num) = some f := by
  have h1 := (kept_all h).1
  unfold holdB at h1
  rw [Bool.and_eq_true] at h1
  exact rise_find h1.1 (insM_mem f _)
/-- The place, by number. -/
def plcM (n : Int) (l : List (CF CM)) : Nat := (l.takeWhile (fun o => !(laterB n o))).length
theorem insM_at (f : CF CM) : ∀ l : List (CF CM), insM f l = l.take (plcM f.num l) ++ f :: l.drop (plcM f.num l)
  | [] => rfl
  | o :: r => by
    unfold insM plcM
    rw [List.takeWhile_cons]
    cases hq : laterB f.num o with
    | true => simp
    | false =>
      rw [if_neg (by simp)]
      have := insM_at f r
      unfold plcM at this
      simp only [Bool.not_false, if_true, List.length_cons, List.take_succ_cons, List.drop_succ_cons, List.cons_append]
      rw [← this]
theorem plcM_le (n : Int) (l : List (CF CM)) : plcM n l ≤ l.length := by
  unfold plcM
  exact (List.takeWhile_sublist _).length_le
end Go.Proofs.YtnfdlnelfnigdaaGreatDoor
