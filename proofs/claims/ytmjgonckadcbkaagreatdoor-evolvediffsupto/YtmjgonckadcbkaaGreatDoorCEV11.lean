/-
  What changed between two types of one name.
  What changed between two tables.
  What changes mean: at most additive, by each type; the other way; twice.
  Ranges of numbers: joined, covered, the same.
  Which numbers lists of ranges hold, as the law asks it.
-/
import Derived.Test.YtmjgonckadcbkaaGreatDoorCEV7
import Derived.Test.YtmjgonckadcbkaaGreatDoorCEV4
namespace Go.Proofs.YtmjgonckadcbkaaGreatDoor
open Go.RowKit
set_option maxRecDepth 1000000
set_option linter.unusedVariables false
set_option linter.unusedSimpArgs false
set_option maxHeartbeats 2000000
/-- Are two lists of ranges the same? -/
def rgsB : List RG → List RG → Bool
  | [], [] => true
  | x :: xs, y :: ys => rgB x y && rgsB xs ys
  | _, _ => false
theorem rgsB_iff : ∀ a b : List RG, rgsB a b = true ↔ a = b
  | [], [] => by simp [rgsB]
  | [], _ :: _ => by simp [rgsB]
  | _ :: _, [] => by simp [rgsB]
  | x :: xs, y :: ys => by
    unfold rgsB
    rw [Bool.and_eq_true, rgB_iff, rgsB_iff xs ys, List.cons.injEq]
/-- The change of what is reserved. -/
def rsL (nm : List Int) (a b : List RG) : List CH := if rgsB (jnL a) (jnL b) = true then [] else [⟨widI (covB (jnL b) (jnL a)), 10, nm, 0⟩]
theorem rsL_le (nm : List Int) (a b : List RG) : (rsL nm a b).length ≤ 1 := by unfold rsL; split <;> simp
theorem compareReservedT (w0 w : World) (p q nb : Nat) (nm : List Int) (cs : List CH) (a b : List RG) (aa ba : Option Addr) (ac bc : Nat) (h0 : Below w0.heap.size w0 w) (hS : EvS w w0.heap.size p q cs) (hN : Blk w nb 9 #[.string (strOfNums nm)]) (hn : cs.length ≤ 3000000)
    (hx : RowS w0 AnyZ 2 (.slice aa a.length ac) a.length (a.flatMap cRG)) (hy : RowS w0 AnyZ 2 (.slice ba b.length bc) b.length (b.flatMap cRG)) (k1 : ∀ x ∈ a, RgOk x) (k2 : ∀ x ∈ b, RgOk x) (l1 : a.length ≤ 128) (l2 : b.length ≤ 128) :
    Calls Tryz.prog 42 #[.slice aa a.length ac, .slice ba b.length bc, .func (.func 21) #[] #[.pointer (some ⟨p, 0, none⟩), .pointer (some ⟨nb, 0, none⟩), .pointer (some ⟨q, 0, none⟩)]] w fun e w' => e = .returned (.tuple #[]) ∧ EvS w' w0.heap.size p q (cs ++ rsL nm a b) ∧ EvF w0.heap.size p q w w' := by
  have hbz := h0.size
  have HJ1 := hid fun W (hW : Below w0.heap.size w0 W) => joinedT W a aa ac (hx.kept hW) k1 (by omega)
  have HJ2 := hid fun W (hW : Below w0.heap.size w0 W) => joinedT W b ba bc (hy.kept hW) k2 (by omega)
  have HS := hid hS
  have HN := hid hN
  have H0 := hid h0
  have HL1 : Hid (rgsB (jnL a) (jnL b) = true → rsL nm a b = []) := hid fun h => by unfold rsL; rw [if_pos h]
  have HL2 : Hid (¬ rgsB (jnL a) (jnL b) = true → rsL nm a b = [⟨widI (covB (jnL b) (jnL a)), 10, nm, 0⟩]) := hid fun h => by unfold rsL; rw [if_neg h]
  have HIF := hid (rgsB_iff (jnL a) (jnL b))
  generalize jnL a = A at *
  generalize jnL b = B at *
  generalize rsL nm a b = R at *
  clear h0 hS hN hx hy k1 k2
  go_enter Tryz.func42, Tryz.ntmps42
  go_wp2_with fail
  refine (HJ1.out _ H0.out).mono ?_
  rintro e w1 ⟨va, vc, rfl, ho1, hb1⟩
  have HO1 := hid ho1
  have HB1 := hid hb1
  clear ho1 hb1
  go_wp2_with fail
  refine (HJ2.out _ (below_trans H0.out HB1.out)).mono ?_
  rintro e w2 ⟨ua, uc, rfl, ho2, hb2⟩
  have HR1 := hid (own_row (Z := AnyZ) (own_kept HO1.out hb2) (fun _ _ => trivial))
  have HR2 := hid (own_row (Z := AnyZ) ho2 (fun _ _ => trivial))
  have HB2 : Hid (Below w.heap.size w w2) := hid (below_trans HB1.out hb2)
  clear ho2 hb2 HO1 HB1
  have HEQ := hid (eqRgT w2 A B va ua vc uc HR1.out HR2.out)
  go_wp2_with fail
  refine HEQ.out.mono ?_
  rintro e w3 ⟨r, rfl, hr, hb3⟩
  replace hr := hid hr
  have HR3 := hid (HR1.out.kept hb3)
  have HR4 := hid (HR2.out.kept hb3)
  have HB3 : Hid (Below w.heap.size w w3) := hid (below_trans HB2.out hb3)
  clear hb3
  cases r with
  | true =>
    have HE := hid (HL1.out (HIF.out.2 (hr.out.1 rfl)))
    go_wp2
    go_end0
    exact ⟨rfl, (HS.out.kept HB3.out).eq (by rw [HE.out]; simp), EvF.ofBelow HB3.out⟩
  | false =>
    have HE := hid (HL2.out (fun h => by have := hr.out.2 (HIF.out.1 h); cases this))
    have HC := hid (coversT w3 B A ua va uc vc HR4.out HR3.out)
    go_wp2_with fail
    refine HC.out.mono ?_
    rintro e w4 ⟨rfl, hb4⟩
    have HB4 : Hid (Below w.heap.size w w4) := hid (below_trans HB3.out hb4)
    clear hb4
    generalize covB B A = cv at *
    go_wp2_with fail
    refine (wideningT cv w4).mono ?_
    rintro e w5 ⟨rfl, rfl⟩
    generalize widI cv = ci at *
    have HT := hid (tellT w4 w0.heap.size p q nb nm cs 10 0 ci (HS.out.kept HB4.out) (HN.out.kept HB4.out) (Nat.le_trans hbz HB4.out.size) (by omega))
    go_wp2_with fail
    refine HT.out.mono ?_
    rintro e w6 ⟨rfl, h3, h4⟩
    replace h3 := hid h3
    replace h4 := hid h4
    go_wp2
    go_end0
    exact ⟨rfl, h3.out.eq (by rw [HE.out]), (EvF.ofBelow HB4.out).trans h4.out⟩
/-- What is asked of a type. -/
structure TyG (l : List TV) (t : TT) : Prop where
  os : ∀ x ∈ t.os, TxA x
  fs : ∀ x ∈ t.fs, TxA x.name
  ss : ∀ x ∈ t.ss, TxA x.name
  fd : t.enum = false → ∀ f ∈ t.fs, FdOk l t f
  ri : t.enum = false → Rise t.fs
  fl : t.enum = false → t.fs.length ≤ 128
  rg : t.enum = false → ∀ x ∈ t.rs, RgOk x
  rl : t.enum = false → t.rs.length ≤ 128
  sl : t.enum = true → t.ss.length ≤ 128
theorem free_ok {fs : List FT} : ∀ (l : List RG) (z : Int), 0 ≤ z → freeA fs l z = true → (∀ x ∈ l, RgOk x) ∧ z ≤ 536870911
  | [], z, hz, h => ⟨fun x hx => by simp at hx, by simpa [freeA] using h⟩
  | r :: l, z, hz, h => by
    unfold freeA at h
    split at h
    · cases h
    · rename_i h1
      split at h
      · cases h
      · obtain ⟨h3, h4⟩ := free_ok l r.hi (by omega) h
        refine ⟨fun x hx => ?_, by omega⟩
        rcases List.mem_cons.1 hx with rfl | hx
        · exact ⟨by omega, by omega, by omega, by omega⟩
        · exact h3 x hx
theorem fld_ok {l : List TV} {t : TT} {f : FT} (h : fldB l t.os.length f = true) : FdOk l t f := by
  unfold fldB at h
  simp only [Bool.and_eq_true] at h
  obtain ⟨-, h1, -, h2, -⟩ := h
  refine ⟨fun hk => ?_, fun hl => ?_⟩
  · unfold refB at h1
    rw [if_pos hk] at h1
    split at h1
    · rename_i x hx
      rw [Bool.and_eq_true, decide_eq_true_eq] at h1
      exact ⟨f.ref.toNat, by omega, (List.getElem?_eq_some_iff.1 hx).1⟩
    · cases h1
  · unfold oneB at h2
    rw [if_pos hl, decide_eq_true_eq] at h2
    exact ⟨f.one.toNat, by omega, by omega⟩
theorem sym_len {ss : List SY} (h : symB ss = true) : ss.length ≤ 128 := by
  cases ss with
  | nil => simp
  | cons s r => unfold symB at h; simp only [Bool.and_eq_true, decide_eq_true_eq] at h; exact h.1
theorem good_TyG {l : List TV} (hg : goodB l = true) (hk : ∀ x ∈ l, OkV x) {k : Nat} (hkl : k < l.length) : TyG l l[k].t := by
  have ho := (hk _ (List.getElem_mem hkl)).ok
  have h := good_at hg hkl
  unfold stepB at h
  simp only [Bool.and_eq_true] at h
  have h2 := h.2.2.2
  unfold typB at h2
  by_cases he : l[k].t.enum = true
  · rw [if_pos he, Bool.and_eq_true] at h2
    have ne : l[k].t.enum ≠ false := by rw [he]; simp
    exact ⟨ho.os, ho.fs, fun x hx => (ho.ss x hx).1, fun e => absurd e ne, fun e => absurd e ne, fun e => absurd e ne, fun e => absurd e ne, fun e => absurd e ne, fun _ => sym_len h2.2⟩
  · rw [if_neg he, Bool.and_eq_true] at h2
    have h3 := h2.2
    unfold msgB at h3
    simp only [Bool.and_eq_true, decide_eq_true_eq, List.all_eq_true] at h3
    obtain ⟨⟨a1, a2⟩, a3, a4, a5, -⟩ := h3
    exact ⟨ho.os, ho.fs, fun x hx => (ho.ss x hx).1, fun _ f hf => fld_ok (a3 f hf), fun _ => (rise_all _ 0 a4).2, fun _ => a1, fun _ => (free_ok _ 0 (by omega) a5).1, fun _ => a2, fun e => absurd e he⟩
/-- The changes of a type. -/
def tyL (nm : List Int) (la lb : List TV) (s t : TT) : List CH := if s.enum = t.enum then (if s.enum = true then syL nm s.ss t.ss else mbL nm la lb s t ++ rsL nm s.rs t.rs) else [⟨4, 2, nm, 0⟩]
theorem syL_le (nm : List Int) (xs ys : List SY) : (syL nm xs ys).length ≤ xs.length + ys.length := by
  unfold syL
  have h1 := flat_le (sy1 nm ys) 1 (sy1_le nm ys) xs
  have h2 := flat_le (sy2 nm xs) 1 (sy2_le nm xs) ys
  rw [List.length_append]
  omega
theorem mbL_le (nm : List Int) (la lb : List TV) (s t : TT) : (mbL nm la lb s t).length ≤ s.fs.length * 3 + t.fs.length := by
  unfold mbL
  have h1 := flat_le (mb1 nm la lb s t) 3 (mb1_le nm la lb s t) s.fs
  have h2 := frsh_le s.fs t.fs
  rw [List.length_append, List.length_map]
  omega
theorem tyL_le {nm : List Int} {la lb : List TV} {s t : TT} (g1 : TyG la s) (g2 : TyG lb t) : (tyL nm la lb s t).length ≤ 600 := by
  unfold tyL
  by_cases h : s.enum = t.enum
  · rw [if_pos h]
    by_cases he : s.enum = true
    · rw [if_pos he]
      have := syL_le nm s.ss t.ss
      have := g1.sl he
      have := g2.sl (h ▸ he)
      omega
    · rw [if_neg he]
      have e0 : s.enum = false := by simpa using he
      have := mbL_le nm la lb s t
      have := rsL_le nm s.rs t.rs
      have := g1.fl e0
      have := g2.fl (h ▸ e0)
      rw [List.length_append]
      omega
  · rw [if_neg h]; simp
theorem compareTypesT (w0 w : World) (p q nb : Nat) (nm : List Int) (cs : List CH) (la lb : List TV) (ta tb : Option Addr) (tc td : Nat) (s t : TT) (fa oa sa ra fb ob sb rb : Option Addr) (fc oc sc rc fd od sd rd : Nat) (h0 : Below w0.heap.size w0 w) (hS : EvS w w0.heap.size p q cs) (hN : Blk w nb 9 #[.string (strOfNums nm)]) (hn : cs.length ≤ 1000000)
    (hla : RowS w0 AnyZ 6 (.slice ta la.length tc) la.length (la.flatMap cTV)) (hlb : RowS w0 AnyZ 6 (.slice tb lb.length td) lb.length (lb.flatMap cTV)) (n1 : ∀ x ∈ la, TxA x.t.name) (n2 : ∀ x ∈ lb, TxA x.t.name)
    (hx : TyR w0 ⟨s, .slice fa s.fs.length fc, .slice oa s.os.length oc, .slice sa s.ss.length sc, .slice ra s.rs.length rc⟩) (hy : TyR w0 ⟨t, .slice fb t.fs.length fd, .slice ob t.os.length od, .slice sb t.ss.length sd, .slice rb t.rs.length rd⟩) (g1 : TyG la s) (g2 : TyG lb t) :
    Calls Tryz.prog 23 #[.agg #[.string (strOfNums s.name), .bool s.enum, .slice fa s.fs.length fc, .slice oa s.os.length oc, .slice sa s.ss.length sc, .slice ra s.rs.length rc, .slice ta la.length tc], .agg #[.string (strOfNums t.name), .bool t.enum, .slice fb t.fs.length fd, .slice ob t.os.length od, .slice sb t.ss.length sd, .slice rb t.rs.length rd, .slice tb lb.length td], .func (.func 21) #[] #[.pointer (some ⟨p, 0, none⟩), .pointer (some ⟨nb, 0, none⟩), .pointer (some ⟨q, 0, none⟩)]] w fun e w' => e = .returned (.tuple #[]) ∧ EvS w' w0.heap.size p q (cs ++ tyL nm la lb s t) ∧ EvF w0.heap.size p q w w' := by
  have hp := hS.bp
  have hq := hS.bq
  have hbz := h0.size
  have HCS := hid fun (e1 : s.enum = true) (e2 : t.enum = true) W (hW : Below w0.heap.size w0 W) (hS : EvS W w0.heap.size p q cs) (hN : Blk W nb 9 #[.string (strOfNums nm)]) => compareSymbolsT w0 W p q nb nm cs s t fa oa sa ra fb ob sb rb fc oc sc rc fd od sd rd hW hS hN (by omega) hx.s hy.s g1.ss g2.ss (g1.sl e1) (g2.sl e2)
  have HCM := hid fun (e1 : s.enum = false) (e2 : t.enum = false) W (hW : Below w0.heap.size w0 W) (hS : EvS W w0.heap.size p q cs) (hN : Blk W nb 9 #[.string (strOfNums nm)]) => compareMembersT w0 W p q nb nm cs la lb ta tb tc td s t fa oa sa ra fb ob sb rb fc oc sc rc fd od sd rd hW hS hN (by omega) hla hlb hx.f hy.f hx.o hy.o n1 n2 g1.os g2.os g1.fs g2.fs (g1.fd e1) (g2.fd e2) (g1.ri e1) (g2.ri e2) (g1.fl e1) (g2.fl e2)
  have HCR := hid fun (e1 : s.enum = false) (e2 : t.enum = false) W (hW : Below w0.heap.size w0 W) cs (hS : EvS W w0.heap.size p q cs) (hN : Blk W nb 9 #[.string (strOfNums nm)]) (hn : cs.length ≤ 3000000) => compareReservedT w0 W p q nb nm cs s.rs t.rs ra rb rc rd hW hS hN hn hx.r hy.r (g1.rg e1) (g2.rg e2) (g1.rl e1) (g2.rl e2)
  have HML : Hid (s.enum = false → t.enum = false → (mbL nm la lb s t).length ≤ 600) := hid fun e1 e2 => by have := mbL_le nm la lb s t; have := g1.fl e1; have := g2.fl e2; omega
  have HL1 : Hid (s.enum = true → t.enum = true → tyL nm la lb s t = syL nm s.ss t.ss) := hid fun e1 e2 => by unfold tyL; rw [if_pos (e1.trans e2.symm), if_pos e1]
  have HL2 : Hid (s.enum = false → t.enum = false → tyL nm la lb s t = mbL nm la lb s t ++ rsL nm s.rs t.rs) := hid fun e1 e2 => by unfold tyL; rw [if_pos (e1.trans e2.symm), if_neg (by rw [e1]; simp)]
  have HL3 : Hid (s.enum ≠ t.enum → tyL nm la lb s t = [⟨4, 2, nm, 0⟩]) := hid fun e => by unfold tyL; rw [if_neg e]
  have H0 := hid h0
  generalize tyL nm la lb s t = TL at *
  generalize mbL nm la lb s t = ML at *
  generalize hRL : rsL nm s.rs t.rs = RL at *
  replace hRL := hid hRL
  generalize hSL : syL nm s.ss t.ss = SL at *
  replace hSL := hid hSL
  obtain ⟨sn, se, xs, sos, sss, srs⟩ := s
  obtain ⟨tn, te, ys, tos, tss, trs⟩ := t
  dsimp only at *
  obtain ⟨A, hA⟩ : ∃ A, Hid (#[Value.string (strOfNums sn), .bool se, .slice fa xs.length fc, .slice oa sos.length oc, .slice sa sss.length sc, .slice ra srs.length rc, .slice ta la.length tc] = A) := ⟨_, hid rfl⟩
  obtain ⟨B, hB⟩ : ∃ B, Hid (#[Value.string (strOfNums tn), .bool te, .slice fb ys.length fd, .slice ob tos.length od, .slice sb tss.length sd, .slice rb trs.length rd, .slice tb lb.length td] = B) := ⟨_, hid rfl⟩
  have HI : Hid (EvI w w0.heap.size p q nb nm 63 A B ((w.alloc (.cells #[.string (strOfNums sn), .bool se, .slice fa xs.length fc, .slice oa sos.length oc, .slice sa sss.length sc, .slice ra srs.length rc, .slice ta la.length tc] 63)).alloc (.cells #[.string (strOfNums tn), .bool te, .slice fb ys.length fd, .slice ob tos.length od, .slice sb tss.length sd, .slice rb trs.length rd, .slice tb lb.length td] 63)) cs) := hid (by rw [← hA.out, ← hB.out]; exact ⟨hS.kept (by exact blBy), hN.kept (by exact blBy), (Blk.new _ _ _).kept (below_alloc _), Blk.newAt (by simp), EvF.ofBelow (by exact blBy)⟩)
  have HTE : Hid (∀ W cs A B, EvI w w0.heap.size p q nb nm 63 A B W cs → ∀ what num cls, cs.length ≤ 4000000 → Calls Tryz.prog 21 #[.int .i64 what, .int .i64 num, .int .i64 cls, .pointer (some ⟨p, 0, none⟩), .pointer (some ⟨nb, 0, none⟩), .pointer (some ⟨q, 0, none⟩)] W fun e w' => e = .returned (.tuple #[]) ∧ EvI w w0.heap.size p q nb nm 63 A B w' (cs ++ [⟨cls, what, nm, num⟩]) ∧ EvF w0.heap.size p q W w') := hid fun W cs A B h what num cls hl => h.tell (by decide) hbz hp hq what num cls hl
  have HLW := hid (HI.out.low h0)
  clear h0 hS hN hla hlb n1 n2 hx hy g1 g2
  cases se <;> cases te
  · replace HCM := hid (HCM.out rfl rfl)
    replace HCR := hid (HCR.out rfl rfl)
    replace HML := hid (HML.out rfl rfl)
    replace HL2 := hid (HL2.out rfl rfl)
    clear HL1 HL3 HCS
    go_enter Tryz.func23, Tryz.ntmps23
    go_wp2_with fail
    refine (HCM.out _ HLW.out HI.out.s HI.out.n).mono ?_
    rintro e w1 ⟨rfl, h3, h4⟩
    have HI2 := hid (HI.out.step (by decide) hp hq h3 h4)
    clear h3 h4 HI HLW
    have HLW := hid (HI2.out.low H0.out)
    have xa := (hA.out ▸ HI2.out.a : Blk w1 w.heap.size 63 #[.string (strOfNums sn), .bool false, .slice fa xs.length fc, .slice oa sos.length oc, .slice sa sss.length sc, .slice ra srs.length rc, .slice ta la.length tc]).cellF
    have za := HI2.out.a.lt
    have xb := (hB.out ▸ HI2.out.b : Blk w1 (w.heap.size + 1) 63 #[.string (strOfNums tn), .bool false, .slice fb ys.length fd, .slice ob tos.length od, .slice sb tss.length sd, .slice rb trs.length rd, .slice tb lb.length td]).cellF
    have zb := HI2.out.b.lt
    go_wp2_with fail
    refine (HCR.out _ HLW.out _ HI2.out.s HI2.out.n (by have := HML.out; simp only [List.length_append]; omega)).mono ?_
    rintro e w2 ⟨rfl, h3, h4⟩
    replace h3 := hid h3
    replace h4 := hid h4
    go_wp2
    go_end0
    exact ⟨rfl, h3.out.eq (by rw [HL2.out]; simp), HI2.out.f.trans h4.out⟩
  · replace HL3 := hid (HL3.out (by simp))
    go_enter Tryz.func23, Tryz.ntmps23
    go_wp2_with fail
    refine (HTE.out _ _ _ _ HI.out _ _ _ (by omega)).mono ?_
    rintro e w1 ⟨rfl, h3, -⟩
    replace h3 := hid h3
    go_wp2
    go_end0
    exact ⟨rfl, h3.out.s.eq (by rw [HL3.out]), h3.out.f⟩
  · replace HL3 := hid (HL3.out (by simp))
    go_enter Tryz.func23, Tryz.ntmps23
    go_wp2_with fail
    refine (HTE.out _ _ _ _ HI.out _ _ _ (by omega)).mono ?_
    rintro e w1 ⟨rfl, h3, -⟩
    replace h3 := hid h3
    go_wp2
    go_end0
    exact ⟨rfl, h3.out.s.eq (by rw [HL3.out]), h3.out.f⟩
  · replace HCS := hid (HCS.out rfl rfl)
    replace HL1 := hid (HL1.out rfl rfl)
    clear HL2 HL3 HCM HCR HML
    go_enter Tryz.func23, Tryz.ntmps23
    go_wp2_with fail
    refine (HCS.out _ HLW.out HI.out.s HI.out.n).mono ?_
    rintro e w1 ⟨rfl, h3, h4⟩
    replace h3 := hid h3
    replace h4 := hid h4
    go_wp2
    go_end0
    exact ⟨rfl, h3.out.eq (by rw [HL1.out]), HI.out.f.trans h4.out⟩
set_option maxHeartbeats 1500000
/-- The changes that an old type tells of. -/
def df1 (a b : List TV) (x : TV) : List CH := match b.findIdx? (nameP x.t.name) with
  | none => [⟨4, 1, x.t.name, 0⟩]
  | some k => match b[k]? with
    | some y => tyL x.t.name a b x.t y.t
    | none => []
/-- The changes that a new type tells of. -/
def df2 (a : List TV) (y : TV) : List CH := match a.findIdx? (nameP y.t.name) with
  | none => [⟨2, 11, y.t.name, 0⟩]
  | some _ => []
def difL (a b : List TV) : List CH := a.flatMap (df1 a b) ++ b.flatMap (df2 a)
theorem df1_le {a b : List TV} {x : TV} (g1 : TyG a x.t) (g2 : ∀ k, ∀ (h : k < b.length), TyG b b[k].t) : (df1 a b x).length ≤ 600 := by
  unfold df1
  split
  · simp
  · split
    · rename_i k hk y hy
      obtain ⟨h1, h2⟩ := List.getElem?_eq_some_iff.1 hy
      exact tyL_le g1 (h2 ▸ g2 _ h1)
    · simp
theorem df2_le (a : List TV) (y : TV) : (df2 a y).length ≤ 1 := by unfold df2; split <;> simp
theorem flat_leM {α β : Type} (f : α → List β) (k : Nat) : ∀ l : List α, (∀ x ∈ l, (f x).length ≤ k) → (l.flatMap f).length ≤ l.length * k
  | [], _ => by simp
  | x :: l, h => by
    have h1 := h x (by simp)
    have h2 := flat_leM f k l (fun y hy => h y (by simp [hy]))
    rw [List.flatMap_cons, List.length_append, List.length_cons, Nat.succ_mul]
    omega
/-- How things stand while tables are compared. -/
structure DfI (w : World) (p q oa ob ka kb : Nat) (a b : List TV) (A B : Array Value) (W : World) (cs : List CH) : Prop where
  s : EvS W w.heap.size p q cs
  ba : Blk W oa 24 A
  bb : Blk W ob 24 B
  k1 : Kn W ka a a.length
  k2 : Kn W kb b b.length
  l : Below w.heap.size w W
theorem DfI.step {w : World} {p q oa ob ka kb : Nat} {a b : List TV} {A B : Array Value} {W W' : World} {cs ds : List CH} (h : DfI w p q oa ob ka kb a b A B W cs) (h1 : EvS W' w.heap.size p q ds) (h2 : EvF w.heap.size p q W W') : DfI w p q oa ob ka kb a b A B W' ds := by
  obtain ⟨v, hv, -⟩ := h.s.row
  have hw := h.s.wst
  exact ⟨h1, h.ba.evf h2 (h.ba.ne hv (by decide)) (h.ba.ne hw (by decide)) (by decide), h.bb.evf h2 (h.bb.ne hv (by decide)) (h.bb.ne hw (by decide)) (by decide), h.k1.evf h2 (h.k1.neB hv) (h.k1.neB hw), h.k2.evf h2 (h.k2.neB hv) (h.k2.neB hw), h.l.trans (h2.below h.l.size)⟩
theorem DfI.kept {w : World} {p q oa ob ka kb : Nat} {a b : List TV} {A B : Array Value} {W W' : World} {cs : List CH} (h : DfI w p q oa ob ka kb a b A B W cs) (hb : Below W.heap.size W W') : DfI w p q oa ob ka kb a b A B W' cs :=
  ⟨h.s.kept hb, h.ba.kept hb, h.bb.kept hb, h.k1.kept hb, h.k2.kept hb, below_trans h.l hb⟩
theorem DfI.eq {w : World} {p q oa ob ka kb : Nat} {a b : List TV} {A B : Array Value} {W : World} {cs ds : List CH} (h : DfI w p q oa ob ka kb a b A B W cs) (e : cs = ds) : DfI w p q oa ob ka kb a b A B W ds := e ▸ h
theorem DfI.p {w : World} {p q oa ob ka kb : Nat} {a b : List TV} {A B : Array Value} {W : World} {cs : List CH} (h : DfI w p q oa ob ka kb a b A B W cs) : oa < W.heap.size ∧ ob < W.heap.size ∧ p < W.heap.size ∧ q < W.heap.size := ⟨h.ba.lt, h.bb.lt, h.s.bp, h.s.bq⟩
/-- A name's box, once it is there. -/
def NBo (nm : List Int) : Option Nat → World → Prop
  | none, _ => True
  | some k, W => Blk W k 9 #[.string (strOfNums nm)]
theorem NBo.kept {nm : List Int} {k : Option Nat} {W W' : World} (h : NBo nm k W) (hb : Below W.heap.size W W') : NBo nm k W' := by
  cases k with
  | none => trivial
  | some k => exact Blk.kept h hb
theorem ofT2 (w : World) (p q : Nat) (nm : List Int) (hl : nm.length ≤ 4000000) : Calls Tryz.prog 19 #[.string (strOfNums nm), .pointer (some ⟨p, 0, none⟩), .pointer (some ⟨q, 0, none⟩)] w fun e w' => ∃ k, e = .returned (.func (.func 21) #[] #[.pointer (some ⟨p, 0, none⟩), .pointer (some ⟨k, 0, none⟩), .pointer (some ⟨q, 0, none⟩)]) ∧ Blk w' k 9 #[.string (strOfNums nm)] ∧ Below w.heap.size w w' := (ofT w 0 p q nm hl).mono fun e w' h => ⟨_, h.1, h.2.1, h.2.2⟩
/-- What Diff answers. -/
def DfA (w : World) (a b : List TV) (e : Ending) (w' : World) : Prop := Below w.heap.size w w' ∧ (goodB a = true ∧ goodB b = true → ∃ va vc, e = .returned (.tuple #[.slice va (difL a b).length vc, .int .i64 (wsC (difL a b)), .int .i64 0]) ∧ w'.ownsRow w.heap.size 56 4 (.slice va (difL a b).length vc) (difL a b).length ((difL a b).flatMap cCH)) ∧ (¬ (goodB a = true ∧ goodB b = true) → e = .returned (.tuple #[.slice none 0 0, .int .i64 0, .int .i64 18]))
theorem diffT (w : World) (a b : List TV) (ta tb : Option Addr) (tc td : Nat) (ha : TbR w (.slice ta a.length tc) a) (hb : TbR w (.slice tb b.length td) b) (ka : ∀ x ∈ a, OkV x) (kb : ∀ x ∈ b, OkV x) (na : ∀ x ∈ a, x.t.name.length ≤ 4000000) (nb : ∀ x ∈ b, x.t.name.length ≤ 4000000) (m : Int) (hm : w.cell? ⟨0, 0, none⟩ = some (.int .i64 m)) : Calls Tryz.prog 6 #[.agg #[.slice ta a.length tc], .agg #[.slice tb b.length td]] w (DfA w a b) := by
  have hz : 0 < w.heap.size := World.block_lt_of_cell? _ _ hm
  have HG1 := hid fun W (hW : Below w.heap.size w W) => goodT W a ta tc (ha.kept hW) ka m ((hW.cell (by omega)).trans hm)
  have HG2 := hid fun W (hW : Below w.heap.size w W) => goodT W b tb td (hb.kept hW) kb m ((hW.cell (by omega)).trans hm)
  have HP1 := hid fun (hg : goodB a = true) W (hW : Below w.heap.size w W) => placesT W a ta tc (ha.kept hW) ka hg
  have HP2 := hid fun (hg : goodB b = true) W (hW : Below w.heap.size w W) => placesT W b tb td (hb.kept hW) kb hg
  have HP1' : Hid (goodB a = true → ∀ W, Below w.heap.size w W → Calls Tryz.prog 22 #[.agg #[.slice ta a.length tc]] W fun e w' => ∃ k, e = .returned (.map (some k)) ∧ Kn w' k a a.length ∧ Below W.heap.size W w') := hid fun hg W hW => (HP1.out hg W hW).mono fun e w' h => ⟨_, h.1, h.2.1, h.2.2⟩
  have HP2' : Hid (goodB b = true → ∀ W, Below w.heap.size w W → Calls Tryz.prog 22 #[.agg #[.slice tb b.length td]] W fun e w' => ∃ k, e = .returned (.map (some k)) ∧ Kn w' k b b.length ∧ Below W.heap.size W w') := hid fun hg W hW => (HP2.out hg W hW).mono fun e w' h => ⟨_, h.1, h.2.1, h.2.2⟩
  clear HP1 HP2
  have HA := hid ha
  have HB := hid hb
  have KA := hid ka
  have KB := hid kb
  clear ha hb ka kb
  go_enter Tryz.func6, Tryz.ntmps6
  go_wp2_with fail
  refine (HG1.out _ (by exact blBy)).mono ?_
  rintro e w1 ⟨rfl, hb1⟩
  have HB1 : Hid (Below w.heap.size w w1) := hid (bl_then (by exact blBy) hb1)
  have BA : Blk w1 w.heap.size 24 #[.slice ta a.length tc] := ((Blk.new _ _ _).kept (below_alloc _)).kept hb1
  have BB : Blk w1 (w.heap.size + 1) 24 #[.slice tb b.length td] := (Blk.newAt (by simp)).kept hb1
  have x1 := BA.cellF
  have z1 := BA.lt
  have x2 := BB.cellF
  have z2 := BB.lt
  have HBA := hid BA
  have HBB := hid BB
  clear hb1 BA BB
  cases hg1 : goodB a with
  | false =>
    go_wp2
    exact bodyPost_ret (v := .tuple #[.slice none 0 0, .int .i64 0, .int .i64 18]) (by simp [results, Tryz.results6, go_sem]) rfl ⟨HB1.out, fun h => by rw [hg1] at h; simp at h, fun _ => rfl⟩
  | true =>
    go_wp2_with fail
    refine (HG2.out _ HB1.out).mono ?_
    rintro e w2 ⟨rfl, hb2⟩
    have HB2 : Hid (Below w.heap.size w w2) := hid (below_trans HB1.out hb2)
    replace HBA := hid (HBA.out.kept hb2)
    replace HBB := hid (HBB.out.kept hb2)
    clear hb2 x1 x2 z1 z2 HB1
    have x1 := HBA.out.cellF
    have z1 := HBA.out.lt
    have x2 := HBB.out.cellF
    have z2 := HBB.out.lt
    cases hg2 : goodB b with
    | false =>
      go_wp2
      exact bodyPost_ret (v := .tuple #[.slice none 0 0, .int .i64 0, .int .i64 18]) (by simp [results, Tryz.results6, go_sem]) rfl ⟨HB2.out, fun h => by rw [hg2] at h; simp at h, fun _ => rfl⟩
    | true =>
      replace HP1 := hid (HP1'.out hg1)
      replace HP2 := hid (HP2'.out hg2)
      clear HP1' HP2' HG1 HG2
      have HD1 : Hid (∀ x, b.findIdx? (nameP x.t.name) = none → df1 a b x = [⟨4, 1, x.t.name, 0⟩]) := hid fun x h => by unfold df1; rw [h]
      have HD2 : Hid (∀ x k, ∀ (hk : k < b.length), b.findIdx? (nameP x.t.name) = some k → df1 a b x = tyL x.t.name a b x.t b[k].t) := hid fun x k hk h => by unfold df1; rw [h]; simp [hk]
      have HD3 : Hid (∀ x, a.findIdx? (nameP x.t.name) = none → df2 a x = [⟨2, 11, x.t.name, 0⟩]) := hid fun x h => by unfold df2; rw [h]
      have HD4 : Hid (∀ x k, a.findIdx? (nameP x.t.name) = some k → df2 a x = []) := hid fun x k h => by unfold df2; rw [h]
      have HDL : Hid (difL a b = a.flatMap (df1 a b) ++ b.flatMap (df2 a)) := hid rfl
      have la := good_len hg1
      have lb := good_len hg2
      have HE1 : Hid (∀ j, ((a.take j).flatMap (df1 a b)).length ≤ 76800) := hid fun j => by
        have := flat_leM (df1 a b) 600 (a.take j) (fun x hx => by
          obtain ⟨i, hi, rfl⟩ := List.getElem_of_mem (List.mem_of_mem_take hx)
          exact df1_le (good_TyG hg1 KA.out hi) (fun k hk => good_TyG hg2 KB.out hk))
        rw [List.length_take] at this
        omega
      have HE2 : Hid (∀ j, ((b.take j).flatMap (df2 a)).length ≤ 128) := hid fun j => by
        have := flat_le (df2 a) 1 (df2_le a) (b.take j)
        rw [List.length_take] at this
        omega
      generalize df1 a b = D1 at *
      generalize df2 a = D2 at *
      have m1 : (a.length : Int) ≤ 9223372036854775807 := by omega
      have m2 : (b.length : Int) ≤ 9223372036854775807 := by omega
      go_upto_region 6 with fail
      have HS3 : Hid (EvS ((w2.alloc (.cells #[.slice none 0 0] 25)).alloc (.cells #[.int .i64 1] 3)) w.heap.size w2.heap.size (w2.heap.size + 1) []) := hid ⟨by omega, by omega, ⟨_, (Blk.new _ _ _).kept (below_alloc _), World.ownsRow_nil _ _ _ _⟩, Blk.newAt (by simp)⟩
      have HL3 : Hid (Below w2.heap.size w2 ((w2.alloc (.cells #[.slice none 0 0] 25)).alloc (.cells #[.int .i64 1] 3))) := hid (by exact blBy)
      replace HBA := hid (HBA.out.kept HL3.out)
      replace HBB := hid (HBB.out.kept HL3.out)
      replace HB2 := hid (below_trans HB2.out HL3.out)
      clear x1 x2 z1 z2 HL3
      generalize hq : w2.heap.size + 1 = q at *
      generalize hp : w2.heap.size = p at *
      clear hp hq
      generalize (w2.alloc (.cells #[.slice none 0 0] 25)).alloc (.cells #[.int .i64 1] 3) = w3 at *
      have HU : Hid (Below w3.heap.size w3 w3) := hid (Below.refl _ _)
      go_region_held3 (fun W => W.cell? ⟨w.heap.size, 0, none⟩ = some (.slice ta a.length tc) ∧ W.cell? ⟨w.heap.size + 1, 0, none⟩ = some (.slice tb b.length td)) (exact ⟨(HBA.out.kept HU.out).cell 0 _ rfl, (HBB.out.kept HU.out).cell 0 _ rfl⟩) (first | (go_at_call_of 22 (Value.agg #[.slice ta a.length tc]); refine (HP1.out _ (below_trans (below_trans HB2.out HU.out) (by first | exact below_drew1 _ | exact Below.refl _ _))).mono ?_; rintro e u1 ⟨k1, rfl, hk1, hu1⟩; have HK1 := hid hk1; replace HU := hid (below_trans HU.out (below_trans (by first | exact below_drew1 _ | exact Below.refl _ _) hu1)); clear hk1 hu1) | (go_at_call_of 22 (Value.agg #[.slice tb b.length td]); refine (HP2.out _ (below_trans (below_trans HB2.out HU.out) (by first | exact below_drew1 _ | exact Below.refl _ _))).mono ?_; rintro e u2 ⟨k2, rfl, hk2, hu2⟩; have HK2 := hid hk2; replace HK1 := hid (HK1.out.kept (below_trans (by first | exact below_drew1 _ | exact Below.refl _ _) hu2)); replace HU := hid (below_trans HU.out (below_trans (by first | exact below_drew1 _ | exact Below.refl _ _) hu2)); clear hk2 hu2))
      all_goals have HI : Hid (DfI w p q w.heap.size (w.heap.size + 1) k1 k2 a b #[.slice ta a.length tc] #[.slice tb b.length td] u2 []) := hid ⟨HS3.out.kept HU.out, HBA.out.kept HU.out, HBB.out.kept HU.out, HK1.out, HK2.out, below_trans HB2.out HU.out⟩
      have x1 := HI.out.ba.cellF
      have z1 := HI.out.ba.lt
      clear HS3 HBA HBB HB2 HU HK1 HK2 HP1 HP2
      go_wp2
      go_loopw [36] (fun r wr => ∃ j : Nat, r = .int .i64 j ∧ j ≤ a.length ∧ Hid (DfI w p q w.heap.size (w.heap.size + 1) k1 k2 a b #[.slice ta a.length tc] #[.slice tb b.length td] wr ((a.take j).flatMap D1))) (fun r wr => a.length - numAt wr r)
      case atStart => exact ⟨0, rfl, by omega, hid (HI.out.eq (by simp))⟩
      case round =>
        clear HI x1 z1
        obtain ⟨j, rfl, hj, HI⟩ := hrel
        by_cases hlt : j < a.length
        · have h2 : (j : Int) < (a.length : Int) := by omega
          have HTY := hid (HA.out.ty _ (List.getElem_mem hlt))
          have HSN := hid (flat_snoc D1 a j hlt)
          have HGX := hid (good_TyG hg1 KA.out hlt)
          have HLN := hid (HE1.out j)
          have HNL := hid (na _ (List.getElem_mem hlt))
          have HTX := hid ((KA.out _ (List.getElem_mem hlt)).ok.nm)
          have HT1 := hid fun W (hW : Below w.heap.size w W) => typeInT W a ta tc (HA.out.kept hW) j hlt
          obtain ⟨zp, zq, yp, yq⟩ := HI.out.p
          obtain ⟨tb1, to1, rfl, hbl, c0, c1, c2, c3, c4, c5⟩ := row6 (HA.out.row.kept HI.out.l) hlt
          generalize a[j] = x at *
          obtain ⟨t, f, o, s, r⟩ := x
          obtain ⟨fa, fc, ef, -⟩ := rowS_sl HTY.out.f
          obtain ⟨oa, oc, eo, -⟩ := rowS_sl HTY.out.o
          obtain ⟨sa, sc, es, -⟩ := rowS_sl HTY.out.s
          obtain ⟨ra, rc, er, -⟩ := rowS_sl HTY.out.r
          dsimp only at ef eo es er
          subst ef eo es er
          dsimp only at c0 c1 c2 c3 c4 c5 HT1 HTX HNL HGX
          have HN1 := hid (HD1.out ⟨t, .slice fa t.fs.length fc, .slice oa t.os.length oc, .slice sa t.ss.length sc, .slice ra t.rs.length rc⟩)
          have HN2 := hid (HD2.out ⟨t, .slice fa t.fs.length fc, .slice oa t.os.length oc, .slice sa t.ss.length sc, .slice ra t.rs.length rc⟩)
          dsimp only at HN1 HN2
          have HIx := hid (HI.out.kept (below_alloc (.cells #[.string (strOfNums t.name), .bool t.enum, .slice fa t.fs.length fc, .slice oa t.os.length oc, .slice sa t.ss.length sc, .slice ra t.rs.length rc] 50)))
          have HBX : Hid (Blk (wr.alloc (.cells #[.string (strOfNums t.name), .bool t.enum, .slice fa t.fs.length fc, .slice oa t.os.length oc, .slice sa t.ss.length sc, .slice ra t.rs.length rc] 50)) wr.heap.size 50 #[.string (strOfNums t.name), .bool t.enum, .slice fa t.fs.length fc, .slice oa t.os.length oc, .slice sa t.ss.length sc, .slice ra t.rs.length rc]) := hid (Blk.new _ _ _)
          clear HI
          rcases HIx.out.k2.at HTX.out with ⟨h1, -, c, hr⟩ | ⟨k, hk, h1, h3, -, hr⟩
          · replace HN1 := hid (HN1.out h1)
            clear HN2 h1
            go_wp2_with fail
            refine (ofT2 _ p q t.name HNL.out).mono ?_
            rintro e w5 ⟨kn, rfl, hn5, hb5⟩
            have HI5 := hid (HIx.out.kept hb5)
            have HN5 := hid hn5
            clear hn5 hb5 hr c0 c1 c2 c3 c4 c5 HIx HBX
            go_wp2_with fail
            refine (tellT w5 w.heap.size p q kn t.name _ 1 0 4 HI5.out.s HN5.out HI5.out.l.size (by have := HLN.out; omega)).mono ?_
            rintro e w6 ⟨rfl, h3, h4⟩
            have HI6 := hid (HI5.out.step h3 h4)
            clear h3 h4 HI5 HN5
            go_wp2
            exact ⟨⟨j + 1, by simp, by omega, hid (HI6.out.eq (by rw [HSN.out, HN1.out]))⟩, by simp [numAt]; omega⟩
          · replace HN2 := hid (HN2.out k hk h1)
            clear HN1 h3 h1
            have HTZ := hid (HB.out.ty _ (List.getElem_mem hk))
            have HGY := hid (good_TyG hg2 KB.out hk)
            have HT2 := hid fun W (hW : Below w.heap.size w W) => typeInT W b tb td (HB.out.kept hW) k hk
            generalize b[k] = y at *
            obtain ⟨t2, f2, o2, s2, r2⟩ := y
            obtain ⟨fb, fd, ef, -⟩ := rowS_sl HTZ.out.f
            obtain ⟨ob, od, eo, -⟩ := rowS_sl HTZ.out.o
            obtain ⟨sb, sd, es, -⟩ := rowS_sl HTZ.out.s
            obtain ⟨rb, rd, er, -⟩ := rowS_sl HTZ.out.r
            dsimp only at ef eo es er
            subst ef eo es er
            dsimp only at HT2 HGY HN2
            have HCT := hid fun W (hW : Below w.heap.size w W) nb cs (hS : EvS W w.heap.size p q cs) (hN : Blk W nb 9 #[.string (strOfNums t.name)]) (hn : cs.length ≤ 1000000) => compareTypesT w W p q nb t.name cs a b (some ⟨tb1, to1, none⟩) tb tc td t t2 fa oa sa ra fb ob sb rb fc oc sc rc fd od sd rd hW hS hN hn HA.out.row HB.out.row (fun x hx => (KA.out x hx).ok.nm) (fun x hx => (KB.out x hx).ok.nm) HTY.out HTZ.out HGX.out HGY.out
            generalize tyL t.name a b t t2 = TL at *
            go_upto_region 13 with fail
            have xp : wr.heap.size ≠ p := by omega
            have xq : wr.heap.size ≠ q := by omega
            clear hr c0 c1 c2 c3 c4 c5
            generalize wr.alloc (.cells #[.string (strOfNums t.name), .bool t.enum, .slice fa t.fs.length fc, .slice oa t.os.length oc, .slice sa t.ss.length sc, .slice ra t.rs.length rc] 50) = w4 at *
            generalize wr.heap.size = xb at *
            have HU : Hid (Below w4.heap.size w4 w4) := hid (Below.refl _ _)
            go_region_held3 (fun W => W.cell? ⟨w.heap.size, 0, none⟩ = some (.slice (some ⟨tb1, to1, none⟩) a.length tc) ∧ W.cell? ⟨w.heap.size + 1, 0, none⟩ = some (.slice tb b.length td) ∧ W.cell? ⟨xb, 0, none⟩ = some (.string (strOfNums t.name))) (first | exact ⟨HI7.out.ba.cell 0 _ rfl, HI7.out.bb.cell 0 _ rfl, HX7.out.cell 0 _ rfl⟩ | exact ⟨(HIx.out.ba.kept HU.out).cell 0 _ rfl, (HIx.out.bb.kept HU.out).cell 0 _ rfl, (HBX.out.kept HU.out).cell 0 _ rfl⟩) (first | (go_at_call_of 24 (Value.agg #[.slice (some ⟨tb1, to1, none⟩) a.length tc]); refine (HT1.out _ (below_trans (below_trans HIx.out.l HU.out) (by first | exact below_drew1 _ | exact Below.refl _ _))).mono ?_; rintro e u1 ⟨rfl, hu1⟩; replace HU := hid (below_trans HU.out (below_trans (by first | exact below_drew1 _ | exact Below.refl _ _) hu1)); clear hu1) | (go_at_call_of 24 (Value.agg #[.slice tb b.length td]); refine (HT2.out _ (below_trans (below_trans HIx.out.l HU.out) (by first | exact below_drew1 _ | exact Below.refl _ _))).mono ?_; rintro e u2 ⟨rfl, hu2⟩; replace HU := hid (below_trans HU.out (below_trans (by first | exact below_drew1 _ | exact Below.refl _ _) hu2)); clear hu2) | (go_at_call 19; refine (ofT2 _ p q t.name HNL.out).mono ?_; rintro e u3 ⟨kn, rfl, hn3, hu3⟩; have HN3 := hid hn3; replace HU := hid (below_trans HU.out (below_trans (by first | exact below_drew1 _ | exact Below.refl _ _) hu3)); clear hn3 hu3) | (go_at_call 23; refine (HCT.out _ (below_trans (below_trans HIx.out.l HU.out) (by first | exact below_drew1 _ | exact Below.refl _ _)) _ _ (HIx.out.s.kept (below_trans HU.out (by first | exact below_drew1 _ | exact Below.refl _ _))) (HN3.out.kept (by first | exact below_drew1 _ | exact Below.refl _ _)) (by have := HLN.out; omega)).mono ?_; rintro e u4 ⟨rfl, h3, h4⟩; have HI7 := hid ((HIx.out.kept (below_trans HU.out (by first | exact below_drew1 _ | exact Below.refl _ _))).step h3 h4); have HX7 := hid ((HBX.out.kept (below_trans HU.out (by first | exact below_drew1 _ | exact Below.refl _ _))).evf h4 xp xq (by decide)); clear h3 h4))
            all_goals (go_wp2; exact ⟨⟨j + 1, by simp, by omega, hid (HI7.out.eq (by rw [HSN.out, HN2.out]))⟩, by simp [numAt]; omega⟩)
        · have h2 : ¬ (j : Int) < (a.length : Int) := by omega
          have HE : Hid (a.take j = a) := hid (List.take_of_length_le (by omega))
          have HLA : Hid ((a.flatMap D1).length ≤ 76800) := hid (by have := HE1.out j; rwa [HE.out] at this)
          rw [HE.out] at HI
          have x1 := HI.out.bb.cellF
          have z1 := HI.out.bb.lt
          clear HE HE1 HD1 HD2 hj h2
          go_wp2
          go_loopw [70] (fun r wr => ∃ j : Nat, r = .int .i64 j ∧ j ≤ b.length ∧ Hid (DfI w p q w.heap.size (w.heap.size + 1) k1 k2 a b #[.slice ta a.length tc] #[.slice tb b.length td] wr (a.flatMap D1 ++ (b.take j).flatMap D2))) (fun r wr => b.length - numAt wr r)
          case atStart => exact ⟨0, rfl, by omega, hid (HI.out.eq (by simp))⟩
          case round =>
            clear HI x1 z1
            obtain ⟨j, rfl, hj, HI⟩ := hrel
            by_cases hlt : j < b.length
            · have h2 : (j : Int) < (b.length : Int) := by omega
              have HTY := hid (HB.out.ty _ (List.getElem_mem hlt))
              have HSN := hid (flat_snoc D2 b j hlt)
              have HLN := hid (HE2.out j)
              have HNL := hid (nb _ (List.getElem_mem hlt))
              have HTX := hid ((KB.out _ (List.getElem_mem hlt)).ok.nm)
              obtain ⟨tb1, to1, rfl, hbl, c0, c1, c2, c3, c4, c5⟩ := row6 (HB.out.row.kept HI.out.l) hlt
              generalize b[j] = x at *
              obtain ⟨t, f, o, s, r⟩ := x
              obtain ⟨fa, fc, ef, -⟩ := rowS_sl HTY.out.f
              obtain ⟨oa, oc, eo, -⟩ := rowS_sl HTY.out.o
              obtain ⟨sa, sc, es, -⟩ := rowS_sl HTY.out.s
              obtain ⟨ra, rc, er, -⟩ := rowS_sl HTY.out.r
              dsimp only at ef eo es er
              subst ef eo es er
              dsimp only at c0 c1 c2 c3 c4 c5 HTX HNL
              have HN1 := hid (HD3.out ⟨t, .slice fa t.fs.length fc, .slice oa t.os.length oc, .slice sa t.ss.length sc, .slice ra t.rs.length rc⟩)
              have HN2 := hid (HD4.out ⟨t, .slice fa t.fs.length fc, .slice oa t.os.length oc, .slice sa t.ss.length sc, .slice ra t.rs.length rc⟩)
              dsimp only at HN1 HN2
              have HIx := hid (HI.out.kept (below_alloc (.cells #[.string (strOfNums t.name), .bool t.enum, .slice fa t.fs.length fc, .slice oa t.os.length oc, .slice sa t.ss.length sc, .slice ra t.rs.length rc] 50)))
              clear HI
              rcases HIx.out.k1.at HTX.out with ⟨h1, -, c, hr⟩ | ⟨k, hk, h1, h3, -, hr⟩
              · replace HN1 := hid (HN1.out h1)
                clear HN2 h1
                go_wp2_with fail
                refine (ofT2 _ p q t.name HNL.out).mono ?_
                rintro e w5 ⟨kn, rfl, hn5, hb5⟩
                have HI5 := hid (HIx.out.kept hb5)
                have HN5 := hid hn5
                clear hn5 hb5 hr c0 c1 c2 c3 c4 c5 HIx
                go_wp2_with fail
                refine (tellT w5 w.heap.size p q kn t.name _ 11 0 2 HI5.out.s HN5.out HI5.out.l.size (by have := HLN.out; have := HLA.out; simp only [List.length_append]; omega)).mono ?_
                rintro e w6 ⟨rfl, h3, h4⟩
                have HI6 := hid (HI5.out.step h3 h4)
                clear h3 h4 HI5 HN5
                go_wp2
                exact ⟨⟨j + 1, by simp, by omega, hid (HI6.out.eq (by rw [HSN.out, HN1.out]; simp))⟩, by simp [numAt]; omega⟩
              · replace HN2 := hid (HN2.out k h1)
                clear HN1 h3 h1
                go_wp2
                exact ⟨⟨j + 1, by simp, by omega, hid (HIx.out.eq (by rw [HSN.out, HN2.out]; simp))⟩, by simp [numAt]; omega⟩
            · have h2 : ¬ (j : Int) < (b.length : Int) := by omega
              have HE : Hid (b.take j = b) := hid (List.take_of_length_le (by omega))
              rw [HE.out, ← HDL.out] at HI
              obtain ⟨v, hv, ho⟩ := HI.out.s.row
              obtain ⟨va, vc, rfl⟩ := own_shape ho
              have x1 := hv.cellF
              have z1 := hv.lt
              have x2 := HI.out.s.wst.cellF
              have z2 := HI.out.s.wst.lt
              have HO := hid ho
              have HLL := hid HI.out.l
              clear HE HE2 HD3 HD4 hj ho hv HI
              go_wp2
              go_quiet (fail)
              go_wp2
              exact bodyPost_ret (v := .tuple #[.slice va (difL a b).length vc, .int .i64 (wsC (difL a b)), .int .i64 0]) (by simp [results, Tryz.results6, go_sem]) rfl ⟨by have := HLL.out; exact blBy, fun _ => ⟨va, vc, rfl, own_kept HO.out (by exact blBy)⟩, fun h => absurd ⟨hg1, hg2⟩ h⟩
set_option maxHeartbeats 1000000
theorem ws_ge (cs : List CH) : ∀ (m : Int), m ≤ cs.foldl (fun m c => max m c.cls) m := by
  induction cs with
  | nil => intro m; simp
  | cons c r ih => intro m; rw [List.foldl_cons]; have := ih (max m c.cls); omega
theorem ws_le_iff (cs : List CH) (k : Int) : ∀ (m : Int), cs.foldl (fun m c => max m c.cls) m ≤ k ↔ m ≤ k ∧ ∀ c ∈ cs, c.cls ≤ k := by
  induction cs with
  | nil => intro m; simp
  | cons c r ih =>
    intro m
    rw [List.foldl_cons, ih]
    simp only [List.mem_cons, forall_eq_or_imp]
    constructor
    · rintro ⟨h1, h2⟩; exact ⟨by omega, by omega, h2⟩
    · rintro ⟨h1, h2, h3⟩; exact ⟨by omega, h3⟩
theorem wsC_le (cs : List CH) (k : Int) (hk : 1 ≤ k) : wsC cs ≤ k ↔ ∀ c ∈ cs, c.cls ≤ k := by
  unfold wsC
  rw [ws_le_iff]
  exact ⟨fun h => h.2, fun h => ⟨hk, h⟩⟩
theorem wsC_ge (cs : List CH) : 1 ≤ wsC cs := ws_ge cs 1
theorem wsC_mem {cs : List CH} {c : CH} (h : c ∈ cs) : c.cls ≤ wsC cs := (wsC_le cs (wsC cs) (wsC_ge cs)).1 (Int.le_refl _) c h
theorem widI_34 (b : Bool) : widI b = 3 ∨ widI b = 4 := by cases b <;> simp [widI]
theorem find_df1 (a b : List TV) (x : TV) : df1 a b x = match b.find? (nameP x.t.name) with | none => [⟨4, 1, x.t.name, 0⟩] | some y => tyL x.t.name a b x.t y.t := by
  unfold df1
  cases h : b.findIdx? (nameP x.t.name) with
  | none =>
    rw [List.findIdx?_eq_none_iff] at h
    rw [List.find?_eq_none.2 (fun y hy => by simpa using h y hy)]
  | some k =>
    rw [List.findIdx?_eq_some_iff_getElem] at h
    obtain ⟨hk, h1, h2⟩ := h
    have : b.find? (nameP x.t.name) = some b[k] := by
      rw [List.find?_eq_some_iff_getElem]
      exact ⟨h1, k, hk, rfl, fun j hj => by simpa using h2 j hj⟩
    rw [this]
    simp [hk]
theorem find_df2 (a : List TV) (y : TV) : df2 a y = match a.find? (nameP y.t.name) with | none => [⟨2, 11, y.t.name, 0⟩] | some _ => [] := by
  unfold df2
  cases h : a.findIdx? (nameP y.t.name) with
  | none =>
    rw [List.findIdx?_eq_none_iff] at h
    rw [List.find?_eq_none.2 (fun y hy => by simpa using h y hy)]
  | some k =>
    rw [List.findIdx?_eq_some_iff_getElem] at h
    obtain ⟨hk, h1, h2⟩ := h
    have : a.find? (nameP y.t.name) = some a[k] := by
      rw [List.find?_eq_some_iff_getElem]
      exact ⟨h1, k, hk, rfl, fun j hj => by simpa using h2 j hj⟩
    rw [this]
theorem nmP_eq {a : List TV} {n : List Int} {x : TV} (h : a.find? (nameP n) = some x) : x ∈ a ∧ x.t.name = n := by
  refine ⟨List.mem_of_find?_eq_some h, ?_⟩
  have := List.find?_some h
  unfold nameP at this
  simpa using this
structure GdT (a : List TV) : Prop where
  nm : ∀ x ∈ a, ∀ y ∈ a, x.t.name = y.t.name → x = y
  ri : ∀ x ∈ a, x.t.enum = false → ∀ f ∈ x.t.fs, ∀ g ∈ x.t.fs, f.num = g.num → f = g
  sy : ∀ x ∈ a, x.t.enum = true → ∀ s ∈ x.t.ss, ∀ r ∈ x.t.ss, s.num = r.num → s = r
theorem GdT.find {a : List TV} (h : GdT a) {x : TV} (hx : x ∈ a) : a.find? (nameP x.t.name) = some x := by
  cases q : a.find? (nameP x.t.name) with
  | none =>
    rw [List.find?_eq_none] at q
    exact absurd (by simp [nameP]) (q x hx)
  | some y =>
    obtain ⟨h1, h2⟩ := nmP_eq q
    rw [h.nm y h1 x hx h2]
theorem fdL_ge {nm : List Int} {f g : FT} {fr gr fo go : List Int} : ∀ c ∈ fdL nm f g fr gr fo go, 3 ≤ c.cls ∧ c.cls ≤ 4 := by
  have w1 := widI_34 (widB f.kind g.kind)
  have w2 := widI_34 (relB f g)
  intro c hc
  unfold fdL fd1 fd2 fd3 at hc
  simp only [List.mem_append] at hc
  rcases hc with (hc | hc) | hc
  · split at hc <;> simp at hc; subst hc; simp
  · split at hc
    · split at hc <;> simp at hc; subst hc; simp
    · simp at hc; subst hc; dsimp only; omega
  · split at hc
    · split at hc
      · split at hc <;> simp at hc; subst hc; simp
      · simp at hc; subst hc; simp
    · simp at hc; subst hc; dsimp only; omega
theorem df1_ge (a b : List TV) (x : TV) : ∀ c ∈ df1 a b x, 2 ≤ c.cls ∧ c.cls ≤ 4 := by
  intro c hc
  rw [find_df1] at hc
  split at hc
  · simp at hc; subst hc; simp
  · unfold tyL at hc
    split at hc
    · split at hc
      · unfold syL at hc
        simp only [List.mem_append, List.mem_flatMap] at hc
        rcases hc with ⟨s, _, hc⟩ | ⟨s, _, hc⟩
        · unfold sy1 at hc
          split at hc
          · simp at hc; subst hc; simp
          · split at hc <;> simp at hc; subst hc; simp
        · unfold sy2 at hc
          split at hc <;> simp at hc; subst hc; simp
      · unfold mbL rsL at hc
        simp only [List.mem_append, List.mem_flatMap, List.mem_map] at hc
        rcases hc with (⟨f, _, hc⟩ | ⟨n, _, rfl⟩) | hc
        · unfold mb1 at hc
          split at hc
          · simp at hc; subst hc; simp
          · have := fdL_ge c hc; omega
        · simp
        · split at hc
          · simp at hc
          · simp at hc; subst hc
            rename_i q1 q2 q3 q4 q5
            have := widI_34 (covB (jnL (‹TV›).t.rs) (jnL x.t.rs))
            dsimp only; omega
    · simp at hc; subst hc; simp
theorem dif_ge (a b : List TV) : ∀ c ∈ difL a b, 2 ≤ c.cls ∧ c.cls ≤ 4 := by
  intro c hc
  unfold difL at hc
  simp only [List.mem_append, List.mem_flatMap] at hc
  rcases hc with ⟨x, _, hc⟩ | ⟨y, _, hc⟩
  · exact df1_ge a b x c hc
  · rw [find_df2] at hc
    split at hc <;> simp at hc; subst hc; simp
theorem dif_nil (a b : List TV) : difL a b = [] ↔ wsC (difL a b) = 1 := by
  constructor
  · intro h; rw [h]; rfl
  · intro h
    refine List.eq_nil_iff_forall_not_mem.2 fun c hc => ?_
    have h1 := wsC_mem hc
    have h2 := dif_ge a b c hc
    omega
/-- What a good table has, as far as changes ask. -/
theorem nums_ne {ss : List SY} (h : dfB ((ss.map SY.num).map litI) = true) : ∀ s ∈ ss, ∀ r ∈ ss, s.num = r.num → s = r := by
  rw [dfB_iff _ (fun x hx => by obtain ⟨y, _, rfl⟩ := List.mem_map.1 hx; trivial), List.Nodup, List.pairwise_map, List.pairwise_map] at h
  intro s hs r hr e
  obtain ⟨i, hi, rfl⟩ := List.getElem_of_mem hs
  obtain ⟨j, hj, rfl⟩ := List.getElem_of_mem hr
  rw [List.pairwise_iff_getElem] at h
  rcases Nat.lt_trichotomy i j with q | q | q
  · exact absurd (by rw [e]) (h i j hi hj q)
  · subst q; rfl
  · exact absurd (by rw [e]) (h j i hj hi q)
/-- Ranges that rise and lie apart. -/
def Srt : List RG → Int → Prop
  | [], _ => True
  | r :: l, z => z < r.lo ∧ r.lo ≤ r.hi ∧ Srt l r.hi
/-- The same, with a number free between two. -/
def Gap : List RG → Int → Prop
  | [], _ => True
  | r :: l, z => z + 1 < r.lo ∧ r.lo ≤ r.hi ∧ Gap l r.hi
def inR (l : List RG) (n : Int) : Prop := ∃ r ∈ l, r.lo ≤ n ∧ n ≤ r.hi
theorem inR_cons {r : RG} {l : List RG} {n : Int} : inR (r :: l) n ↔ (r.lo ≤ n ∧ n ≤ r.hi) ∨ inR l n := by simp [inR]
theorem inR_nil {n : Int} : ¬ inR [] n := by simp [inR]
theorem gap_low : ∀ {l : List RG} {z n : Int}, Gap l z → inR l n → z + 1 < n
  | [], _, _, _, h => absurd h inR_nil
  | r :: l, z, n, hs, h => by
    obtain ⟨h1, h2, h3⟩ := hs
    rcases inR_cons.1 h with h | h
    · omega
    · have := gap_low h3 h; omega
def jn2 : RG → List RG → List RG
  | c, [] => [c]
  | c, r :: l => if c.hi + 1 = r.lo then jn2 ⟨c.lo, r.hi⟩ l else c :: jn2 r l
theorem stJ_snoc (out : List RG) (c r : RG) : stJ (out ++ [c]) r = if c.hi + 1 = r.lo then out ++ [⟨c.lo, r.hi⟩] else out ++ [c] ++ [r] := by
  unfold stJ
  simp
theorem fold_jn2 : ∀ (l : List RG) (out : List RG) (c : RG), l.foldl stJ (out ++ [c]) = out ++ jn2 c l
  | [], out, c => by simp [jn2]
  | r :: l, out, c => by
    rw [List.foldl_cons, stJ_snoc, jn2]
    split
    · exact fold_jn2 l out _
    · rw [fold_jn2 l (out ++ [c]) r]; simp
theorem jn_cons (r : RG) (l : List RG) : jnL (r :: l) = jn2 r l := by
  unfold jnL
  rw [List.foldl_cons]
  have := fold_jn2 l [] r
  simpa [stJ] using this
theorem jn2_gap : ∀ (l : List RG) (c : RG) (z : Int), z + 1 < c.lo → c.lo ≤ c.hi → Srt l c.hi → Gap (jn2 c l) z
  | [], c, z, h1, h2, _ => ⟨h1, h2, trivial⟩
  | r :: l, c, z, h1, h2, h3 => by
    obtain ⟨a1, a2, a3⟩ := h3
    rw [jn2]
    split
    · rename_i q
      exact jn2_gap l _ z h1 (by dsimp only; omega) a3
    · rename_i q
      exact ⟨h1, h2, jn2_gap l r c.hi (by omega) a2 a3⟩
theorem jn2_in : ∀ (l : List RG) (c : RG) (n : Int), c.lo ≤ c.hi → Srt l c.hi → (inR (jn2 c l) n ↔ inR (c :: l) n)
  | [], c, n, _, _ => by rw [jn2]
  | r :: l, c, n, h2, h3 => by
    obtain ⟨a1, a2, a3⟩ := h3
    rw [jn2]
    split
    · rename_i q
      rw [jn2_in l (RG.mk c.lo r.hi) n (by dsimp only; omega) a3, inR_cons, inR_cons, inR_cons]
      constructor
      · rintro (h | h)
        · dsimp only at h
          by_cases g : n ≤ c.hi
          · exact .inl ⟨h.1, g⟩
          · exact .inr (.inl ⟨by omega, h.2⟩)
        · exact .inr (.inr h)
      · rintro (h | h | h)
        · exact .inl ⟨h.1, by dsimp only; omega⟩
        · exact .inl ⟨by dsimp only; omega, h.2⟩
        · exact .inr h
    · rw [inR_cons, jn2_in l r n a2 a3, inR_cons (r := c)]
theorem jn_gap {l : List RG} (h : Srt l 0) : Gap (jnL l) (-1) := by
  cases l with
  | nil => exact trivial
  | cons r l => rw [jn_cons]; exact jn2_gap l r (-1) (by have := h.1; omega) h.2.1 h.2.2
theorem jn_in {l : List RG} (h : Srt l 0) (n : Int) : inR (jnL l) n ↔ inR l n := by
  cases l with
  | nil => exact Iff.rfl
  | cons r l => rw [jn_cons]; exact jn2_in l r n h.2.1 h.2.2
theorem gap_uniq : ∀ {a b : List RG} {y z : Int}, Gap a y → Gap b z → (∀ n, inR a n ↔ inR b n) → a = b
  | [], [], _, _, _, _, _ => rfl
  | [], s :: b, _, _, _, hb, h => absurd ((h s.lo).2 (inR_cons.2 (.inl ⟨Int.le_refl _, hb.2.1⟩))) inR_nil
  | r :: a, [], _, _, ha, _, h => absurd ((h r.lo).1 (inR_cons.2 (.inl ⟨Int.le_refl _, ha.2.1⟩))) inR_nil
  | r :: a, s :: b, y, z, ha, hb, h => by
    obtain ⟨a1, a2, a3⟩ := ha
    obtain ⟨b1, b2, b3⟩ := hb
    have l1 : ∀ {n}, inR (r :: a) n → r.lo ≤ n := fun {n} q => by
      rcases inR_cons.1 q with q | q
      · exact q.1
      · have := gap_low a3 q; omega
    have l2 : ∀ {n}, inR (s :: b) n → s.lo ≤ n := fun {n} q => by
      rcases inR_cons.1 q with q | q
      · exact q.1
      · have := gap_low b3 q; omega
    have e1 : r.lo = s.lo := by
      have q1 := l2 ((h r.lo).1 (inR_cons.2 (.inl ⟨Int.le_refl _, a2⟩)))
      have q2 := l1 ((h s.lo).2 (inR_cons.2 (.inl ⟨Int.le_refl _, b2⟩)))
      omega
    have e2 : r.hi = s.hi := by
      rcases Int.lt_trichotomy r.hi s.hi with q | q | q
      · have := (h (r.hi + 1)).2 (inR_cons.2 (.inl ⟨by omega, by omega⟩))
        rcases inR_cons.1 this with t | t
        · omega
        · have := gap_low a3 t; omega
      · exact q
      · have := (h (s.hi + 1)).1 (inR_cons.2 (.inl ⟨by omega, by omega⟩))
        rcases inR_cons.1 this with t | t
        · omega
        · have := gap_low b3 t; omega
    have e : r = s := by cases r; cases s; simp at e1 e2; subst e1 e2; rfl
    subst e
    have := gap_uniq a3 b3 (fun n => by
      constructor
      · intro q
        have q1 := gap_low a3 q
        rcases inR_cons.1 ((h n).1 (inR_cons.2 (.inr q))) with t | t
        · omega
        · exact t
      · intro q
        have q1 := gap_low b3 q
        rcases inR_cons.1 ((h n).2 (inR_cons.2 (.inr q))) with t | t
        · omega
        · exact t)
    rw [this]
theorem gap_free : ∀ {l : List RG} {z : Int}, Gap l z → ∀ o ∈ l, ¬ inR l (o.hi + 1)
  | [], _, _, o, ho => by cases ho
  | r :: l, z, h, o, ho => by
    obtain ⟨h1, h2, h3⟩ := h
    intro q
    rcases List.mem_cons.1 ho with rfl | ho
    · rcases inR_cons.1 q with t | t
      · omega
      · have := gap_low h3 t; omega
    · rcases inR_cons.1 q with t | t
      · have hm : inR l o.hi := by
          have hle : o.lo ≤ o.hi := by
            have key : ∀ {l : List RG} {z : Int}, Gap l z → ∀ o ∈ l, o.lo ≤ o.hi := by
              intro l
              induction l with
              | nil => intro z _ o ho; cases ho
              | cons r l ih => intro z h o ho; rcases List.mem_cons.1 ho with rfl | ho; exact h.2.1; exact ih h.2.2 o ho
            exact key h3 o ho
          exact ⟨o, ho, hle, Int.le_refl _⟩
        have := gap_low h3 hm; omega
      · exact gap_free h3 o ho t
theorem gap_le : ∀ {l : List RG} {z : Int}, Gap l z → ∀ o ∈ l, o.lo ≤ o.hi
  | [], _, _, o, ho => by cases ho
  | r :: l, z, h, o, ho => by
    rcases List.mem_cons.1 ho with rfl | ho
    · exact h.2.1
    · exact gap_le h.2.2 o ho
theorem srt_le : ∀ {l : List RG} {z : Int}, Srt l z → ∀ o ∈ l, o.lo ≤ o.hi
  | [], _, _, o, ho => by cases ho
  | r :: l, z, h, o, ho => by
    rcases List.mem_cons.1 ho with rfl | ho
    · exact h.2.1
    · exact srt_le h.2.2 o ho
def SubR (a b : List RG) : Prop := ∀ n, inR a n → inR b n
theorem cov_iff {a b : List RG} {z : Int} (hb : Gap b z) (ha : ∀ o ∈ a, o.lo ≤ o.hi) : covB b a = true ↔ SubR a b := by
  have e : covB b a = true ↔ ∀ r ∈ a, ∃ o ∈ b, o.lo ≤ r.lo ∧ r.hi ≤ o.hi := by
    unfold covB rwB
    simp
  rw [e]
  constructor
  · rintro h n ⟨r, hr, h1, h2⟩
    obtain ⟨o, ho, q1, q2⟩ := h r hr
    exact ⟨o, ho, by omega, by omega⟩
  · intro h r hr
    obtain ⟨o, ho, q1, q2⟩ := h r.lo ⟨r, hr, Int.le_refl _, ha r hr⟩
    refine ⟨o, ho, q1, ?_⟩
    apply Classical.byContradiction
    intro q
    exact gap_free hb o ho (h (o.hi + 1) ⟨r, hr, by omega, by omega⟩)
theorem jn_sub {a b : List RG} (ha : Srt a 0) (hb : Srt b 0) : covB (jnL b) (jnL a) = true ↔ SubR a b := by
  rw [cov_iff (jn_gap hb) (gap_le (jn_gap ha))]
  unfold SubR
  simp only [jn_in ha, jn_in hb]
theorem jn_same {a b : List RG} (ha : Srt a 0) (hb : Srt b 0) : jnL a = jnL b ↔ SubR a b ∧ SubR b a := by
  constructor
  · intro h
    have q : ∀ n, inR a n ↔ inR b n := fun n => by rw [← jn_in ha, ← jn_in hb, h]
    exact ⟨fun n => (q n).1, fun n => (q n).2⟩
  · rintro ⟨h1, h2⟩
    refine gap_uniq (jn_gap ha) (jn_gap hb) fun n => ?_
    rw [jn_in ha, jn_in hb]
    exact ⟨h1 n, h2 n⟩
def wAt (b : List RG) (at' : Int) : Int := b.foldl (fun at' s => if s.lo ≤ at' ∧ at' ≤ s.hi then s.hi + 1 else at') at'
def witB (a b : List RG) : Bool := a.all (fun r => decide (r.hi < wAt b r.lo))
theorem wAt_cons (s : RG) (b : List RG) (x : Int) : wAt (s :: b) x = wAt b (if s.lo ≤ x ∧ x ≤ s.hi then s.hi + 1 else x) := rfl
theorem wAt_ge : ∀ (b : List RG) (x : Int), x ≤ wAt b x
  | [], x => by simp [wAt]
  | s :: b, x => by
    rw [wAt_cons]
    have := wAt_ge b (if s.lo ≤ x ∧ x ≤ s.hi then s.hi + 1 else x)
    split at this <;> rename_i q <;> simp only [q] <;> simp <;> omega
theorem wAt_in : ∀ (b : List RG) (x n : Int), x ≤ n → n < wAt b x → inR b n
  | [], x, n, h1, h2 => by simp [wAt] at h2; omega
  | s :: b, x, n, h1, h2 => by
    rw [wAt_cons] at h2
    by_cases q : s.lo ≤ x ∧ x ≤ s.hi
    · rw [if_pos q] at h2
      by_cases g : n ≤ s.hi
      · exact inR_cons.2 (.inl ⟨by omega, g⟩)
      · exact inR_cons.2 (.inr (wAt_in b _ n (by omega) h2))
    · rw [if_neg q] at h2
      exact inR_cons.2 (.inr (wAt_in b x n h1 h2))
theorem wAt_below : ∀ (b : List RG) (z x : Int), Srt b z → x ≤ z → wAt b x = x
  | [], _, _, _, _ => rfl
  | s :: b, z, x, h, hx => by
    obtain ⟨h1, h2, h3⟩ := h
    rw [wAt_cons, if_neg (by omega)]
    exact wAt_below b s.hi x h3 (by omega)
theorem wAt_out : ∀ (b : List RG) (z x : Int), Srt b z → ¬ inR b (wAt b x)
  | [], _, _, _ => inR_nil
  | s :: b, z, x, h => by
    obtain ⟨h1, h2, h3⟩ := h
    rw [wAt_cons]
    intro q
    rcases inR_cons.1 q with t | t
    · by_cases g : s.lo ≤ x ∧ x ≤ s.hi
      · rw [if_pos g] at t
        have := wAt_ge b (s.hi + 1); omega
      · rw [if_neg g] at t
        by_cases k : x ≤ s.hi
        · rw [wAt_below b s.hi x h3 k] at t; exact g t
        · have := wAt_ge b x; omega
    · exact wAt_out b s.hi _ h3 t
theorem wit_iff {a b : List RG} (ha : ∀ o ∈ a, o.lo ≤ o.hi) (hb : Srt b 0) : witB a b = true ↔ SubR a b := by
  unfold witB
  simp only [List.all_eq_true, decide_eq_true_eq]
  constructor
  · rintro h n ⟨r, hr, h1, h2⟩
    exact wAt_in b r.lo n h1 (by have := h r hr; omega)
  · intro h r hr
    apply Classical.byContradiction
    intro q
    exact wAt_out b 0 r.lo hb (h _ ⟨r, hr, wAt_ge b r.lo, by omega⟩)
theorem free_srt {fs : List FT} : ∀ (l : List RG) (z : Int), freeA fs l z = true → Srt l z
  | [], _, _ => trivial
  | r :: l, z, h => by
    unfold freeA at h
    split at h
    · cases h
    · rename_i h1
      split at h
      · cases h
      · exact ⟨by omega, by omega, free_srt l r.hi h⟩
end Go.Proofs.YtmjgonckadcbkaaGreatDoor
