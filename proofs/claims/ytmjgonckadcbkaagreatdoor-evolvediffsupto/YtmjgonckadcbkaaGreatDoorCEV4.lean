/-
  Where the names of a good table stand.
  What changed between two enums.
  What changed between two messages' fields.
-/
import Derived.Test.YtmjgonckadcbkaaGreatDoorCTY
import Derived.Test.YtmjgonckadcbkaaGreatDoorCEV8
namespace Go.Proofs.YtmjgonckadcbkaaGreatDoor
open Go.RowKit
set_option maxRecDepth 1000000
set_option linter.unusedVariables false
set_option linter.unusedSimpArgs false
set_option maxHeartbeats 1000000
theorem Kn.same {w w' : World} {b : Nat} {l : List TV} {i : Nat} (h : Kn w b l i) (hb : w'.heap[b]? = w.heap[b]?) : Kn w' b l i := by
  obtain ⟨D, ⟨es, ck, h1, h1'⟩, h2, h3⟩ := h
  exact ⟨D, ⟨es, ck, hb.trans h1, h1'⟩, h2, h3⟩
theorem Kn.evf {base p q : Nat} {w w' : World} {b : Nat} {l : List TV} {i : Nat} (h : Kn w b l i) (g : EvF base p q w w') (hp : b ≠ p) (hq : b ≠ q) : Kn w' b l i := by
  refine h.same (g.block b h.lt (.inr ⟨hp, hq, fun cs fr e => ?_⟩))
  obtain ⟨D, ⟨es, ck, h1, h1'⟩, h2, h3⟩ := h
  rw [h1] at e
  cases e
theorem Kn.neB {w : World} {b k : Nat} {l : List TV} {i : Nat} {t : TypeId} {cs : Array Value} (h : Kn w b l i) (g : Blk w k t cs) : b ≠ k := fun e => by
  obtain ⟨D, ⟨es, ck, h1, h1'⟩, h2, h3⟩ := h
  subst e
  have := h1.symm.trans g
  cases this
theorem good_len {l : List TV} (hg : goodB l = true) : l.length ≤ 128 := by
  unfold goodB at hg
  rw [Bool.and_eq_true, decide_eq_true_eq] at hg
  exact hg.1
theorem good_nm {l : List TV} (hg : goodB l = true) {k : Nat} (hk : k < l.length) : named (l.take k) l[k].t.name = false := by
  have h := good_at hg hk
  unfold stepB at h
  rw [Bool.and_eq_true] at h
  simpa using h.1
theorem placesT (w : World) (l : List TV) (ta : Option Addr) (tc : Nat) (h : TbR w (.slice ta l.length tc) l) (hk : ∀ x ∈ l, OkV x) (hg : goodB l = true) : Calls Tryz.prog 22 #[.agg #[.slice ta l.length tc]] w fun e w' => e = .returned (.map (some (w.heap.size + 1))) ∧ Kn w' (w.heap.size + 1) l l.length ∧ Below w.heap.size w w' := by
  have hl := good_len hg
  have h1 : (l.length : Int) ≤ 9223372036854775807 := by omega
  have HT := hid h
  have HK := hid hk
  have HG := hid hg
  clear h hk hg
  have hmk := fun W => run_makeMapN (P := Tryz.prog) 58 .i64 (l.length : Int) W Tryz.underlying58
  go_enter Tryz.func22, Tryz.ntmps22
  go_wp2
  clear hmk
  go_loopw [13] (fun r wr => ∃ j : Nat, r = .int .i64 j ∧ j ≤ l.length ∧ Hid (Kn wr (w.heap.size + 1) l j) ∧ Hid (Below w.heap.size w wr)) (fun r wr => l.length - numAt wr r)
  case atStart => exact ⟨0, rfl, by omega, hid (by have := Kn.new (w.alloc (Obj.cells #[Value.slice ta l.length tc] 24)) l; simpa using this), hid (by exact blBy)⟩
  case round =>
    obtain ⟨j, rfl, hj, HKN, hb⟩ := hrel
    by_cases hlt : j < l.length
    · have h3 : (j : Int) < (l.length : Int) := by omega
      have HTY := hid (HT.out.ty _ (List.getElem_mem hlt))
      obtain ⟨tb, tof, rfl, hbl, c0, c1, c2, c3, c4, c5⟩ := row6 (HT.out.row.kept hb.out) hlt
      have HPUT : Hid (∀ W, Kn W (w.heap.size + 1) l j → ∃ w', (Instr.mapUpdate 58 (.map (some (w.heap.size + 1))) (.string (strOfNums l[j].t.name)) (.int .i64 (j : Int))).run Tryz.prog W = .ok () w' ∧ Kn w' (w.heap.size + 1) l (j + 1) ∧ W.grownBy w' (some (w.heap.size + 1))) := hid fun W hW => hW.put hlt (by omega) (fun v hv => (HK.out v hv).ok.nm) (good_nm HG.out hlt)
      generalize l[j] = x at *
      obtain ⟨t, f, o, s, r⟩ := x
      obtain ⟨fa, fc, ef, -⟩ := rowS_sl HTY.out.f
      obtain ⟨oa, oc, eo, -⟩ := rowS_sl HTY.out.o
      obtain ⟨sa, sc, es, -⟩ := rowS_sl HTY.out.s
      obtain ⟨ra, rc, er, -⟩ := rowS_sl HTY.out.r
      dsimp only at ef eo es er
      subst ef eo es er
      dsimp only at c0 c1 c2 c3 c4 c5
      obtain ⟨w4, hr4, hk4, hg4⟩ := HPUT.out (wr.alloc (.cells #[.string (strOfNums t.name), .bool t.enum, .slice fa t.fs.length fc, .slice oa t.os.length oc, .slice sa t.ss.length sc, .slice ra t.rs.length rc] 50)) (HKN.out.kept (below_alloc _))
      try dsimp only at hr4
      have hsz := HKN.out.lt
      have HK4 := hid hk4
      have HL4 : Hid (Below w.heap.size w w4) := hid ((by have := hb.out; exact blBy : Below w.heap.size w (wr.alloc _)).trans (grown_below hg4 (by omega) (by simp; omega)))
      clear hk4 hg4 HPUT HKN
      go_wp2
      exact ⟨⟨j + 1, by simp, by omega, HK4, HL4⟩, by simp [numAt]; omega⟩
    · have h3 : ¬ (j : Int) < (l.length : Int) := by omega
      have ej : j = l.length := by omega
      subst ej
      go_wp2
      go_ret
      exact ⟨rfl, HKN.out, hb.out⟩
theorem typeInT (w : World) (l : List TV) (ta : Option Addr) (tc : Nat) (h : TbR w (.slice ta l.length tc) l) (k : Nat) (hk : k < l.length) : Calls Tryz.prog 24 #[.agg #[.slice ta l.length tc], .int .i64 (k : Int)] w fun e w' => e = .returned (.agg #[.string (strOfNums l[k].t.name), .bool l[k].t.enum, l[k].f, l[k].o, l[k].s, l[k].r, .slice ta l.length tc]) ∧ Below w.heap.size w w' := by
  obtain ⟨_, _, e, hn⟩ := rowS_sl h.row
  clear e
  have h63 : (l.length : Int) ≤ 9223372036854775807 := by omega
  have HTY := hid (h.ty _ (List.getElem_mem hk))
  obtain ⟨tb, tof, rfl, hbl, c0, c1, c2, c3, c4, c5⟩ := row6 h.row hk
  have r5 : (k : Int) < (l.length : Int) := by omega
  have n0 : tb ≠ w.heap.size := by omega
  have n1 : tb ≠ w.heap.size + 1 := by omega
  have n2 : tb < w.heap.size + 1 := by omega
  clear h
  generalize l[k] = x at *
  obtain ⟨t, f, o, s, r⟩ := x
  obtain ⟨fa, fc, ef, -⟩ := rowS_sl HTY.out.f
  obtain ⟨oa, oc, eo, -⟩ := rowS_sl HTY.out.o
  obtain ⟨sa, sc, es, -⟩ := rowS_sl HTY.out.s
  obtain ⟨ra, rc, er, -⟩ := rowS_sl HTY.out.r
  dsimp only at ef eo es er
  subst ef eo es er
  dsimp only at c0 c1 c2 c3 c4 c5
  dsimp only
  clear HTY
  go_enter Tryz.func24, Tryz.ntmps24
  go_wp2
  go_region
  all_goals (go_wp2; exact bodyPost_ret (v := .agg #[.string (strOfNums t.name), .bool t.enum, .slice fa t.fs.length fc, .slice oa t.os.length oc, .slice sa t.ss.length sc, .slice ra t.rs.length rc, .slice (some ⟨tb, tof, none⟩) l.length tc]) (by simp [results, Tryz.results24, go_sem]) rfl ⟨rfl, by exact blBy⟩)
/-- Where a name stands, and whether. -/
theorem Kn.find {l : List TV} (x : List Int) : (named l x = false ∧ l.findIdx? (nameP x) = none) ∨ ∃ (k : Nat) (hk : k < l.length), named l x = true ∧ l.findIdx? (nameP x) = some k ∧ l[k].t.name = x := by
  cases h : l.findIdx? (nameP x) with
  | none =>
    refine .inl ⟨?_, rfl⟩
    rw [List.findIdx?_eq_none_iff] at h
    unfold named
    rw [List.any_eq_false]
    intro v hv
    have := h v hv
    unfold nameP at this
    simpa using this
  | some k =>
    rw [List.findIdx?_eq_some_iff_getElem] at h
    obtain ⟨hk, hp, _⟩ := h
    refine .inr ⟨k, hk, ?_, rfl, by unfold nameP at hp; simpa using hp⟩
    unfold named
    rw [List.any_eq_true]
    exact ⟨l[k], List.getElem_mem hk, by unfold nameP at hp; simpa using hp⟩
/-- What a name is looked up as. -/
theorem Kn.at {w : World} {b : Nat} {l : List TV} (h : Kn w b l l.length) {x : List Int} (hx : TxA x) : (l.findIdx? (nameP x) = none ∧ named l x = false ∧ ∃ c, (Instr.lookup 58 (.map (some b)) (.string (strOfNums x)) true).run Tryz.prog w = .ok (.tuple #[.int .i64 c, .bool false]) w) ∨ ∃ (k : Nat) (hk : k < l.length), l.findIdx? (nameP x) = some k ∧ l[k].t.name = x ∧ named l x = true ∧ (Instr.lookup 58 (.map (some b)) (.string (strOfNums x)) true).run Tryz.prog w = .ok (.tuple #[.int .i64 k, .bool true]) w := by
  obtain ⟨c, hr, hc⟩ := h.look hx
  rw [List.take_length] at hr
  rcases Kn.find (l := l) x with ⟨h1, h2⟩ | ⟨k, hk, h1, h2, h3⟩
  · rw [h1] at hr
    exact .inl ⟨h2, h1, c, hr⟩
  · rw [h1, hc k hk hk h3] at hr
    exact .inr ⟨k, hk, h2, h3, h1, hr⟩
/-- The maker of gatherers: a name in a box of its own. -/
theorem ofT (w : World) (base p q : Nat) (nm : List Int) (hl : nm.length ≤ 4000000) : Calls Tryz.prog 19 #[.string (strOfNums nm), .pointer (some ⟨p, 0, none⟩), .pointer (some ⟨q, 0, none⟩)] w fun e w' => e = .returned (.func (.func 21) #[] #[.pointer (some ⟨p, 0, none⟩), .pointer (some ⟨w.heap.size, 0, none⟩), .pointer (some ⟨q, 0, none⟩)]) ∧ Blk w' w.heap.size 9 #[.string (strOfNums nm)] ∧ Below w.heap.size w w' := by
  have HC := hid fun W => cloneS nm W hl
  go_enter Tryz.func19, Tryz.ntmps19
  go_wp2_with fail
  refine (HC.out _).mono ?_
  rintro e w1 ⟨rfl, hb1⟩
  have B1 : Blk w1 w.heap.size 9 #[.string (strOfNums nm)] := (Blk.new _ _ _).kept hb1
  have hb : Hid (Below w.heap.size w w1) := hid (bl_then (by exact blBy) hb1)
  have x1 := B1.cellF
  have y1 := B1.frz
  have z1 := B1.lt
  have HB := hid B1
  clear hb1 B1
  go_wp2
  go_ret
  exact ⟨rfl, (HB.out.set 0 _).is (by simp), by have := hb.out; exact blBy⟩
set_option maxHeartbeats 2000000
theorem flat_snoc {α β : Type} (f : α → List β) (l : List α) (j : Nat) (hj : j < l.length) : (l.take (j + 1)).flatMap f = (l.take j).flatMap f ++ f l[j] := by
  rw [List.take_succ_eq_append_getElem hj, List.flatMap_append]
  simp
theorem flat_le {α β : Type} (f : α → List β) (k : Nat) (h : ∀ x, (f x).length ≤ k) : ∀ l : List α, (l.flatMap f).length ≤ l.length * k
  | [] => by simp
  | x :: r => by
    have h1 := flat_le f k h r
    have h2 := h x
    rw [List.flatMap_cons, List.length_append, List.length_cons, Nat.add_mul]
    omega
theorem EvS.eq {w : World} {base p q : Nat} {cs ds : List CH} (h : EvS w base p q cs) (e : cs = ds) : EvS w base p q ds := e ▸ h
/-- What is known where two structs lie in boxes and changes are gathered. -/
structure EvI (w : World) (base p q nb : Nat) (nm : List Int) (t : TypeId) (A B : Array Value) (W : World) (cs : List CH) : Prop where
  s : EvS W base p q cs
  n : Blk W nb 9 #[.string (strOfNums nm)]
  a : Blk W w.heap.size t A
  b : Blk W (w.heap.size + 1) t B
  f : EvF base p q w W
theorem EvI.step {w : World} {base p q nb : Nat} {nm : List Int} {t : TypeId} {A B : Array Value} {W W' : World} {cs ds : List CH} (h : EvI w base p q nb nm t A B W cs) (ht : t ≠ 56) (hp : p < w.heap.size) (hq : q < w.heap.size) (h1 : EvS W' base p q ds) (h2 : EvF base p q W W') : EvI w base p q nb nm t A B W' ds := by
  obtain ⟨v, hv, _⟩ := h.s.row
  exact ⟨h1, h.n.evf h2 (h.n.ne hv (by decide)) (h.n.ne h.s.wst (by decide)) (by decide), h.a.evf h2 (by omega) (by omega) ht, h.b.evf h2 (by omega) (by omega) ht, h.f.trans h2⟩
theorem EvI.tell {w : World} {base p q nb : Nat} {nm : List Int} {t : TypeId} {A B : Array Value} {W : World} {cs : List CH} (h : EvI w base p q nb nm t A B W cs) (ht : t ≠ 56) (hb : base ≤ w.heap.size) (hp : p < w.heap.size) (hq : q < w.heap.size) (what num cls : Int) (hn : cs.length ≤ 4000000) : Calls Tryz.prog 21 #[.int .i64 what, .int .i64 num, .int .i64 cls, .pointer (some ⟨p, 0, none⟩), .pointer (some ⟨nb, 0, none⟩), .pointer (some ⟨q, 0, none⟩)] W fun e w' => e = .returned (.tuple #[]) ∧ EvI w base p q nb nm t A B w' (cs ++ [⟨cls, what, nm, num⟩]) ∧ EvF base p q W w' := by
  have hs := h.f.size
  refine (tellT W base p q nb nm cs what num cls h.s h.n (by omega) hn).mono ?_
  rintro e w' ⟨rfl, h1, h2⟩
  exact ⟨rfl, h.step ht hp hq h1 h2, h2⟩
theorem EvI.kept {w : World} {base p q nb : Nat} {nm : List Int} {t : TypeId} {A B : Array Value} {W W' : World} {cs : List CH} (h : EvI w base p q nb nm t A B W cs) (hb : Below W.heap.size W W') : EvI w base p q nb nm t A B W' cs :=
  ⟨h.s.kept hb, h.n.kept hb, h.a.kept hb, h.b.kept hb, h.f.trans (EvF.ofBelow hb)⟩
theorem EvI.eq {w : World} {base p q nb : Nat} {nm : List Int} {t : TypeId} {A B : Array Value} {W : World} {cs ds : List CH} (h : EvI w base p q nb nm t A B W cs) (e : cs = ds) : EvI w base p q nb nm t A B W ds := e ▸ h
theorem EvI.low {w0 w : World} {p q nb : Nat} {nm : List Int} {t : TypeId} {A B : Array Value} {W : World} {cs : List CH} (h : EvI w w0.heap.size p q nb nm t A B W cs) (h0 : Below w0.heap.size w0 w) : Below w0.heap.size w0 W := h0.trans (h.f.below h0.size)
/-- The changes of an enum's symbols. -/
def sy1 (nm : List Int) (ys : List SY) (s : SY) : List CH := match ys.find? (syI s.num) with
  | none => [⟨4, 3, nm, s.num⟩]
  | some y => if y.name = s.name then [] else [⟨3, 7, nm, s.num⟩]
def sy2 (nm : List Int) (xs : List SY) (s : SY) : List CH := match xs.find? (syI s.num) with
  | none => [⟨3, 4, nm, s.num⟩]
  | some _ => []
def syL (nm : List Int) (xs ys : List SY) : List CH := xs.flatMap (sy1 nm ys) ++ ys.flatMap (sy2 nm xs)
theorem sy1_le (nm : List Int) (ys : List SY) (s : SY) : (sy1 nm ys s).length ≤ 1 := by unfold sy1; split <;> (try split) <;> simp
theorem sy2_le (nm : List Int) (ys : List SY) (s : SY) : (sy2 nm ys s).length ≤ 1 := by unfold sy2; split <;> simp
theorem compareSymbolsT (w0 w : World) (p q nb : Nat) (nm : List Int) (cs : List CH) (s t : TT) (fa oa sa ra fb ob sb rb : Option Addr) (fc oc sc rc fd od sd rd : Nat) (h0 : Below w0.heap.size w0 w) (hS : EvS w w0.heap.size p q cs) (hN : Blk w nb 9 #[.string (strOfNums nm)]) (hn : cs.length ≤ 3000000)
    (hx : RowS w0 AnyZ 2 (.slice sa s.ss.length sc) s.ss.length (s.ss.flatMap cSY)) (hy : RowS w0 AnyZ 2 (.slice sb t.ss.length sd) t.ss.length (t.ss.flatMap cSY)) (t1 : ∀ x ∈ s.ss, TxA x.name) (t2 : ∀ x ∈ t.ss, TxA x.name) (l1 : s.ss.length ≤ 128) (l2 : t.ss.length ≤ 128) :
    Calls Tryz.prog 40 #[.agg #[.string (strOfNums s.name), .bool s.enum, .slice fa s.fs.length fc, .slice oa s.os.length oc, .slice sa s.ss.length sc, .slice ra s.rs.length rc], .agg #[.string (strOfNums t.name), .bool t.enum, .slice fb t.fs.length fd, .slice ob t.os.length od, .slice sb t.ss.length sd, .slice rb t.rs.length rd], .func (.func 21) #[] #[.pointer (some ⟨p, 0, none⟩), .pointer (some ⟨nb, 0, none⟩), .pointer (some ⟨q, 0, none⟩)]] w fun e w' => e = .returned (.tuple #[]) ∧ EvS w' w0.heap.size p q (cs ++ syL nm s.ss t.ss) ∧ EvF w0.heap.size p q w w' := by
  have hp := hS.bp
  have hq := hS.bq
  have hbz := h0.size
  have m1 : (s.ss.length : Int) ≤ 9223372036854775807 := by omega
  have m2 : (t.ss.length : Int) ≤ 9223372036854775807 := by omega
  have HC1 := hid fun W (hW : Below w0.heap.size w0 W) n => symbolOfE W t fb ob sb rb fd od sd rd (hy.kept hW) n
  have HC2 := hid fun W (hW : Below w0.heap.size w0 W) n => symbolOfE W s fa oa sa ra fc oc sc rc (hx.kept hW) n
  have H0 := hid h0
  have HX := hid hx
  have HY := hid hy
  have T1 := hid t1
  have T2 := hid t2
  have HL : Hid (syL nm s.ss t.ss = s.ss.flatMap (sy1 nm t.ss) ++ t.ss.flatMap (sy2 nm s.ss)) := hid rfl
  obtain ⟨sn, se, sfs, sos, xs, srs⟩ := s
  obtain ⟨tn, te, tfs, tos, ys, trs⟩ := t
  dsimp only at *
  obtain ⟨A, hA⟩ : ∃ A, Hid (#[Value.string (strOfNums sn), .bool se, .slice fa sfs.length fc, .slice oa sos.length oc, .slice sa xs.length sc, .slice ra srs.length rc] = A) := ⟨_, hid rfl⟩
  obtain ⟨B, hB⟩ : ∃ B, Hid (#[Value.string (strOfNums tn), .bool te, .slice fb tfs.length fd, .slice ob tos.length od, .slice sb ys.length sd, .slice rb trs.length rd] = B) := ⟨_, hid rfl⟩
  have HI : Hid (EvI w w0.heap.size p q nb nm 50 A B ((w.alloc (.cells #[Value.string (strOfNums sn), .bool se, .slice fa sfs.length fc, .slice oa sos.length oc, .slice sa xs.length sc, .slice ra srs.length rc] 50)).alloc (.cells #[Value.string (strOfNums tn), .bool te, .slice fb tfs.length fd, .slice ob tos.length od, .slice sb ys.length sd, .slice rb trs.length rd] 50)) cs) := hid (by rw [← hA.out, ← hB.out]; exact ⟨hS.kept (by exact blBy), hN.kept (by exact blBy), (Blk.new _ _ _).kept (below_alloc _), Blk.newAt (by simp), EvF.ofBelow (by exact blBy)⟩)
  clear h0 hx hy t1 t2 hS hN
  go_enter Tryz.func40, Tryz.ntmps40
  go_wp2
  go_loopw [17] (fun r wr => ∃ j : Nat, r = .int .i64 j ∧ j ≤ xs.length ∧ Hid (EvI w w0.heap.size p q nb nm 50 A B wr (cs ++ (xs.take j).flatMap (sy1 nm ys)))) (fun r wr => xs.length - numAt wr r)
  case atStart => exact ⟨0, rfl, by omega, hid (HI.out.eq (by simp))⟩
  case round =>
    clear HI
    obtain ⟨j, rfl, hj, HI⟩ := hrel
    by_cases hlt : j < xs.length
    · have h2 : (j : Int) < (xs.length : Int) := by omega
      have HLW := hid (HI.out.low H0.out)
      obtain ⟨b1, o1, rfl, hb1, c0, c1⟩ := rowY (HX.out.kept HLW.out) hlt
      have HSN := hid (flat_snoc (sy1 nm ys) xs j hlt)
      have HLN : Hid (((xs.take j).flatMap (sy1 nm ys)).length ≤ 128) := hid (by have := flat_le (sy1 nm ys) 1 (sy1_le nm ys) (xs.take j); rw [List.length_take] at this; omega)
      have HT1 := hid (T1.out _ (List.getElem_mem hlt))
      generalize xs[j] = x at *
      obtain ⟨xn, xm⟩ := x
      dsimp only at c0 c1 HT1
      have xb := (hB.out ▸ HI.out.b : Blk wr (w.heap.size + 1) 50 #[.string (strOfNums tn), .bool te, .slice fb tfs.length fd, .slice ob tos.length od, .slice sb ys.length sd, .slice rb trs.length rd]).cellF
      have zb := HI.out.b.lt
      have nb1 : w.heap.size + 1 < wr.heap.size := zb
      go_wp2_with fail
      refine (HC1.out _ (bl_alloc HLW.out _) _).mono ?_
      rintro e w1 ⟨rfl, hb2⟩
      have B1 : Blk w1 wr.heap.size 77 #[.string (strOfNums xn), .int .i64 xm] := (Blk.new _ _ _).kept hb2
      have x1 := B1.cellF
      have y1 := B1.frz
      have z1 := B1.lt
      have HB2 : Hid (Below wr.heap.size wr w1) := hid (bl_then (by exact blBy) hb2)
      clear hb2 B1 xb zb c0 c1
      cases hfd : ys.find? (syI xm) with
      | none =>
        replace HSN := hid (HSN.out.trans (congrArg _ (show sy1 nm ys ⟨xn, xm⟩ = [⟨4, 3, nm, xm⟩] by unfold sy1; rw [hfd])))
        dsimp only [tSE]
        go_wp2_with fail
        refine ((HI.out.kept (by have := HB2.out; exact blBy)).tell (by decide) (by omega) hp hq _ _ _ (by have := HLN.out; simp only [List.length_append]; omega)).mono ?_
        rintro e w2 ⟨rfl, h3, -⟩
        replace h3 := hid h3
        go_wp2
        exact ⟨⟨j + 1, by simp, by omega, hid (h3.out.eq (by rw [HSN.out]; simp))⟩, by simp [numAt]; omega⟩
      | some y =>
        have HT2 := hid (T2.out y (List.mem_of_find?_eq_some hfd))
        obtain ⟨yn, ym⟩ := y
        dsimp only at HT2
        have s1 := str_eq HT2.out.1 HT1.out.1
        dsimp only [tSE]
        by_cases e1 : yn = xn
        · rw [decide_eq_true e1] at s1
          replace HSN := hid (HSN.out.trans (congrArg _ (show sy1 nm ys ⟨xn, xm⟩ = [] by unfold sy1; rw [hfd]; simp [e1])))
          replace e1 := hid e1
          go_wp2
          exact ⟨⟨j + 1, by simp, by omega, hid ((HI.out.kept (by have := HB2.out; exact blBy)).eq (by rw [HSN.out]; simp))⟩, by simp [numAt]; omega⟩
        · rw [decide_eq_false e1] at s1
          replace HSN := hid (HSN.out.trans (congrArg _ (show sy1 nm ys ⟨xn, xm⟩ = [⟨3, 7, nm, xm⟩] by unfold sy1; rw [hfd]; simp [e1])))
          replace e1 := hid e1
          go_wp2_with fail
          refine ((HI.out.kept (by have := HB2.out; exact blBy)).tell (by decide) (by omega) hp hq _ _ _ (by have := HLN.out; simp only [List.length_append]; omega)).mono ?_
          rintro e w2 ⟨rfl, h3, -⟩
          replace h3 := hid h3
          go_wp2
          exact ⟨⟨j + 1, by simp, by omega, hid (h3.out.eq (by rw [HSN.out]; simp))⟩, by simp [numAt]; omega⟩
    · have h2 : ¬ (j : Int) < (xs.length : Int) := by omega
      have HE : Hid (xs.take j = xs) := hid (List.take_of_length_le (by omega))
      rw [HE.out] at HI
      have HLN : Hid ((xs.flatMap (sy1 nm ys)).length ≤ 128) := hid (by have := flat_le (sy1 nm ys) 1 (sy1_le nm ys) xs; omega)
      have xb := (hB.out ▸ HI.out.b : Blk wr (w.heap.size + 1) 50 #[.string (strOfNums tn), .bool te, .slice fb tfs.length fd, .slice ob tos.length od, .slice sb ys.length sd, .slice rb trs.length rd]).cellF
      have zb := HI.out.b.lt
      go_wp2
      clear xb zb
      go_loopw [49] (fun r wr => ∃ j : Nat, r = .int .i64 j ∧ j ≤ ys.length ∧ Hid (EvI w w0.heap.size p q nb nm 50 A B wr (cs ++ xs.flatMap (sy1 nm ys) ++ (ys.take j).flatMap (sy2 nm xs)))) (fun r wr => ys.length - numAt wr r)
      case atStart => exact ⟨0, rfl, by omega, hid (HI.out.eq (by simp))⟩
      case round =>
        clear HI
        obtain ⟨j, rfl, hj, HI⟩ := hrel
        by_cases hlt : j < ys.length
        · have h2 : (j : Int) < (ys.length : Int) := by omega
          have HLW := hid (HI.out.low H0.out)
          obtain ⟨b1, o1, rfl, hb1, c0, c1⟩ := rowY (HY.out.kept HLW.out) hlt
          have HSN := hid (flat_snoc (sy2 nm xs) ys j hlt)
          have HLM : Hid (((ys.take j).flatMap (sy2 nm xs)).length ≤ 128) := hid (by have := flat_le (sy2 nm xs) 1 (sy2_le nm xs) (ys.take j); rw [List.length_take] at this; omega)
          generalize ys[j] = x at *
          obtain ⟨xn, xm⟩ := x
          dsimp only at c0 c1
          have xa := (hA.out ▸ HI.out.a : Blk wr w.heap.size 50 #[.string (strOfNums sn), .bool se, .slice fa sfs.length fc, .slice oa sos.length oc, .slice sa xs.length sc, .slice ra srs.length rc]).cellF
          have za := HI.out.a.lt
          go_wp2_with fail
          refine (HC2.out _ (bl_alloc HLW.out _) _).mono ?_
          rintro e w1 ⟨rfl, hb2⟩
          have B1 : Blk w1 wr.heap.size 77 #[.string (strOfNums xn), .int .i64 xm] := (Blk.new _ _ _).kept hb2
          have x1 := B1.cellF
          have y1 := B1.frz
          have z1 := B1.lt
          have HB2 : Hid (Below wr.heap.size wr w1) := hid (bl_then (by exact blBy) hb2)
          clear hb2 B1 xa za c0 c1
          cases hfd : xs.find? (syI xm) with
          | none =>
            replace HSN := hid (HSN.out.trans (congrArg _ (show sy2 nm xs ⟨xn, xm⟩ = [⟨3, 4, nm, xm⟩] by unfold sy2; rw [hfd])))
            dsimp only [tSE]
            go_wp2_with fail
            refine ((HI.out.kept (by have := HB2.out; exact blBy)).tell (by decide) (by omega) hp hq _ _ _ (by have := HLN.out; have := HLM.out; simp only [List.length_append]; omega)).mono ?_
            rintro e w2 ⟨rfl, h3, -⟩
            replace h3 := hid h3
            go_wp2
            exact ⟨⟨j + 1, by simp, by omega, hid (h3.out.eq (by rw [HSN.out]; simp))⟩, by simp [numAt]; omega⟩
          | some y =>
            replace HSN := hid (HSN.out.trans (congrArg _ (show sy2 nm xs ⟨xn, xm⟩ = [] by unfold sy2; rw [hfd])))
            obtain ⟨yn, ym⟩ := y
            dsimp only [tSE]
            go_wp2
            exact ⟨⟨j + 1, by simp, by omega, hid ((HI.out.kept (by have := HB2.out; exact blBy)).eq (by rw [HSN.out]; simp))⟩, by simp [numAt]; omega⟩
        · have h2 : ¬ (j : Int) < (ys.length : Int) := by omega
          have HE : Hid (ys.take j = ys) := hid (List.take_of_length_le (by omega))
          rw [HE.out] at HI
          go_wp2
          go_end0
          exact ⟨rfl, HI.out.s.eq (by rw [HL.out]; simp), HI.out.f⟩
set_option maxHeartbeats 4000000
theorem own_evf {base p q : Nat} {w w' : World} {b e size n : Nat} {v : Value} {fl : List Value} (h : w.ownsRow b e size v n fl) (g : EvF base p q w w') (he : e ≠ 56) (hk : ∀ k, v.ownBlock = some k → k ≠ p ∧ k ≠ q) : w'.ownsRow b e size v n fl := by
  refine ⟨h.1, ?_⟩
  rcases h.2 with h' | ⟨gb, cap, cur, rfl, hbg, hg, rest⟩
  · exact .inl h'
  · have h2 := hk gb rfl
    refine .inr ⟨gb, cap, cur, rfl, hbg, (g.block gb (Array.getElem?_eq_some_iff.1 hg).1 (.inr ⟨h2.1, h2.2, fun cs fr e2 => ?_⟩)).trans hg, rest⟩
    rw [hg] at e2
    cases e2
    exact he rfl
/-- The changes of an old field. -/
def mb1 (nm : List Int) (la lb : List TV) (s t : TT) (f : FT) : List CH := match t.fs.find? (fdI f.num) with
  | none => [⟨4, 5, nm, f.num⟩]
  | some g => fdL nm f g (refN la f) (refN lb g) (oneN s f) (oneN t g)
def mbL (nm : List Int) (la lb : List TV) (s t : TT) : List CH := s.fs.flatMap (mb1 nm la lb s t) ++ (frshL s.fs t.fs).map (fun n => ⟨2, 6, nm, n⟩)
theorem mb1_le (nm : List Int) (la lb : List TV) (s t : TT) (f : FT) : (mb1 nm la lb s t f).length ≤ 3 := by
  unfold mb1
  split
  · simp
  · exact fdL_le _ _ _ _ _ _ _
/-- What is asked of a field: that what its indices name is there. -/
def FdOk (l : List TV) (t : TT) (f : FT) : Prop := (f.kind = 16 ∨ f.kind = 17 → ∃ k : Nat, f.ref = k ∧ k < l.length) ∧ (f.lab = 4 → ∃ k : Nat, f.one = k ∧ k < t.os.length)
theorem refN_tx {l : List TV} {f : FT} (h : ∀ x ∈ l, TxA x.t.name) : TxA (refN l f) := by
  have h0 : TxA [] := ⟨fun c hc => by simp at hc, by simp⟩
  unfold refN
  split
  · split
    · rename_i x hx
      exact h x (List.mem_of_getElem? hx)
    · exact h0
  · exact h0
theorem oneN_tx {t : TT} {f : FT} (h : ∀ x ∈ t.os, TxA x) : TxA (oneN t f) := by
  have h0 : TxA [] := ⟨fun c hc => by simp at hc, by simp⟩
  unfold oneN
  split
  · cases hq : t.os[f.one.toNat]? with
    | none => exact h0
    | some x => exact h x (List.mem_of_getElem? hq)
  · exact h0
theorem compareMembersT (w0 w : World) (p q nb : Nat) (nm : List Int) (cs : List CH) (la lb : List TV) (ta tb : Option Addr) (tc td : Nat) (s t : TT) (fa oa sa ra fb ob sb rb : Option Addr) (fc oc sc rc fd od sd rd : Nat) (h0 : Below w0.heap.size w0 w) (hS : EvS w w0.heap.size p q cs) (hN : Blk w nb 9 #[.string (strOfNums nm)]) (hn : cs.length ≤ 2000000)
    (hla : RowS w0 AnyZ 6 (.slice ta la.length tc) la.length (la.flatMap cTV)) (hlb : RowS w0 AnyZ 6 (.slice tb lb.length td) lb.length (lb.flatMap cTV))
    (hx : RowS w0 AnyZ 7 (.slice fa s.fs.length fc) s.fs.length (s.fs.flatMap cFT)) (hy : RowS w0 AnyZ 7 (.slice fb t.fs.length fd) t.fs.length (t.fs.flatMap cFT))
    (ho : RowS w0 AnyZ 1 (.slice oa s.os.length oc) s.os.length (s.os.flatMap cN)) (ho2 : RowS w0 AnyZ 1 (.slice ob t.os.length od) t.os.length (t.os.flatMap cN))
    (n1 : ∀ x ∈ la, TxA x.t.name) (n2 : ∀ x ∈ lb, TxA x.t.name) (o1 : ∀ x ∈ s.os, TxA x) (o2 : ∀ x ∈ t.os, TxA x) (t1 : ∀ x ∈ s.fs, TxA x.name) (t2 : ∀ x ∈ t.fs, TxA x.name) (k1 : ∀ f ∈ s.fs, FdOk la s f) (k2 : ∀ f ∈ t.fs, FdOk lb t f) (r1 : Rise s.fs) (r2 : Rise t.fs) (l1 : s.fs.length ≤ 128) (l2 : t.fs.length ≤ 128) :
    Calls Tryz.prog 41 #[.agg #[.string (strOfNums s.name), .bool s.enum, .slice fa s.fs.length fc, .slice oa s.os.length oc, .slice sa s.ss.length sc, .slice ra s.rs.length rc, .slice ta la.length tc], .agg #[.string (strOfNums t.name), .bool t.enum, .slice fb t.fs.length fd, .slice ob t.os.length od, .slice sb t.ss.length sd, .slice rb t.rs.length rd, .slice tb lb.length td], .func (.func 21) #[] #[.pointer (some ⟨p, 0, none⟩), .pointer (some ⟨nb, 0, none⟩), .pointer (some ⟨q, 0, none⟩)]] w fun e w' => e = .returned (.tuple #[]) ∧ EvS w' w0.heap.size p q (cs ++ mbL nm la lb s t) ∧ EvF w0.heap.size p q w w' := by
  have hp := hS.bp
  have hq := hS.bq
  have hbz := h0.size
  have m1 : (s.fs.length : Int) ≤ 9223372036854775807 := by omega
  have HC1 := hid fun W (hW : Below w0.heap.size w0 W) n => findFE W t.fs fb fd (hy.kept hW) r2 l2 n
  have HFA := hid fun W (hW : Below w0.heap.size w0 W) f (hf : FdOk la s f) => fieldT W la ta tc (hla.kept hW) s fa oa sa ra s.fs.length fc oc s.ss.length sc s.rs.length rc (ho.kept hW) f hf.1 hf.2
  have HFB := hid fun W (hW : Below w0.heap.size w0 W) f (hf : FdOk lb t f) => fieldT W lb tb td (hlb.kept hW) t fb ob sb rb t.fs.length fd od t.ss.length sd t.rs.length rd (ho2.kept hW) f hf.1 hf.2
  have HFR := hid fun W (hW : Below w0.heap.size w0 W) => freshT18 W s.fs t.fs fa fb fc fd (hx.kept hW) (hy.kept hW) r1 l1 l2
  have HFL := hid (frsh_le s.fs t.fs)
  have HCF := hid fun W cs (hS : EvS W w0.heap.size p q cs) (hN : Blk W nb 9 #[.string (strOfNums nm)]) (hb : w0.heap.size ≤ W.heap.size) (hn : cs.length ≤ 3000000) f g (hf : f ∈ s.fs) (hg : g ∈ t.fs) => compareFieldsT W w0.heap.size p q nb nm cs f g (refN la f) (refN lb g) (oneN s f) (oneN t g) hS hN hb hn (t1 f hf) (t2 g hg) (refN_tx n1) (refN_tx n2) (oneN_tx o1) (oneN_tx o2)
  have H0 := hid h0
  have HX := hid hx
  have K1 := hid k1
  have K2 := hid k2
  have HL : Hid (mbL nm la lb s t = s.fs.flatMap (mb1 nm la lb s t) ++ (frshL s.fs t.fs).map (fun n => ⟨2, 6, nm, n⟩)) := hid rfl
  have HN1 : Hid (∀ f, t.fs.find? (fdI f.num) = none → mb1 nm la lb s t f = [⟨4, 5, nm, f.num⟩]) := hid fun f h => by unfold mb1; rw [h]
  have HN2 : Hid (∀ f g, t.fs.find? (fdI f.num) = some g → mb1 nm la lb s t f = fdL nm f g (refN la f) (refN lb g) (oneN s f) (oneN t g)) := hid fun f g h => by unfold mb1; rw [h]
  have HLE := hid (mb1_le nm la lb s t)
  generalize mb1 nm la lb s t = M at *
  generalize mbL nm la lb s t = ML at *
  generalize frshL s.fs t.fs = FR at *
  have HTE : Hid (∀ W cs A B, EvI w w0.heap.size p q nb nm 63 A B W cs → ∀ what num cls, cs.length ≤ 4000000 → Calls Tryz.prog 21 #[.int .i64 what, .int .i64 num, .int .i64 cls, .pointer (some ⟨p, 0, none⟩), .pointer (some ⟨nb, 0, none⟩), .pointer (some ⟨q, 0, none⟩)] W fun e w' => e = .returned (.tuple #[]) ∧ EvI w w0.heap.size p q nb nm 63 A B w' (cs ++ [⟨cls, what, nm, num⟩]) ∧ EvF w0.heap.size p q W w') := hid fun W cs A B h what num cls hl => h.tell (by decide) hbz hp hq what num cls hl
  obtain ⟨sn, se, xs, sos, sss, srs⟩ := s
  obtain ⟨tn, te, ys, tos, tss, trs⟩ := t
  dsimp only at *
  obtain ⟨A, hA⟩ : ∃ A, Hid (#[Value.string (strOfNums sn), .bool se, .slice fa xs.length fc, .slice oa sos.length oc, .slice sa sss.length sc, .slice ra srs.length rc, .slice ta la.length tc] = A) := ⟨_, hid rfl⟩
  obtain ⟨B, hB⟩ : ∃ B, Hid (#[Value.string (strOfNums tn), .bool te, .slice fb ys.length fd, .slice ob tos.length od, .slice sb tss.length sd, .slice rb trs.length rd, .slice tb lb.length td] = B) := ⟨_, hid rfl⟩
  have HI : Hid (EvI w w0.heap.size p q nb nm 63 A B ((w.alloc (.cells #[.string (strOfNums sn), .bool se, .slice fa xs.length fc, .slice oa sos.length oc, .slice sa sss.length sc, .slice ra srs.length rc, .slice ta la.length tc] 63)).alloc (.cells #[.string (strOfNums tn), .bool te, .slice fb ys.length fd, .slice ob tos.length od, .slice sb tss.length sd, .slice rb trs.length rd, .slice tb lb.length td] 63)) cs) := hid (by rw [← hA.out, ← hB.out]; exact ⟨hS.kept (by exact blBy), hN.kept (by exact blBy), (Blk.new _ _ _).kept (below_alloc _), Blk.newAt (by simp), EvF.ofBelow (by exact blBy)⟩)
  clear h0 hx hy ho ho2 hla hlb t1 t2 n1 n2 o1 o2 k1 k2 r1 r2 hS hN
  go_enter Tryz.func41, Tryz.ntmps41
  go_wp2
  go_loopw [16] (fun r wr => ∃ j : Nat, r = .int .i64 j ∧ j ≤ xs.length ∧ Hid (EvI w w0.heap.size p q nb nm 63 A B wr (cs ++ (xs.take j).flatMap M))) (fun r wr => xs.length - numAt wr r)
  case atStart => exact ⟨0, rfl, by omega, hid (HI.out.eq (by simp))⟩
  case round =>
    clear HI
    obtain ⟨j, rfl, hj, HI⟩ := hrel
    by_cases hlt : j < xs.length
    · have h2 : (j : Int) < (xs.length : Int) := by omega
      have HLW := hid (HI.out.low H0.out)
      obtain ⟨b1, o1, rfl, hb1, c0, c1, c2, c3, c4, c5, c6⟩ := row7 (HX.out.kept HLW.out) hlt
      have HSN := hid (flat_snoc M xs j hlt)
      have HLN : Hid (((xs.take j).flatMap M).length ≤ 384) := hid (by have := flat_le M 3 HLE.out (xs.take j); rw [List.length_take] at this; omega)
      have HM1 := hid (List.getElem_mem hlt)
      generalize xs[j] = x at *
      have HKX := hid (K1.out _ HM1.out)
      have HCX := hid (fun W cs hS hN hb hn g hg => HCF.out W cs hS hN hb hn x g HM1.out hg)
      have HFX := hid (fun W hW => HFA.out W hW x HKX.out)
      have HNX1 := hid (HN1.out x)
      have HNX2 := hid (HN2.out x)
      obtain ⟨xn, xm, x2, x3, x4, x5, x6⟩ := x
      unfold aFT at HFX
      dsimp only at c0 c1 c2 c3 c4 c5 c6 HFX HNX1 HNX2
      have xb := (hB.out ▸ HI.out.b : Blk wr (w.heap.size + 1) 63 #[.string (strOfNums tn), .bool te, .slice fb ys.length fd, .slice ob tos.length od, .slice sb tss.length sd, .slice rb trs.length rd, .slice tb lb.length td]).cellF
      have zb := HI.out.b.lt
      go_wp2_with fail
      refine (HC1.out _ (bl_alloc HLW.out _) _).mono ?_
      rintro e w1 ⟨rfl, hb2⟩
      have B1 : Blk w1 wr.heap.size 79 #[.string (strOfNums xn), .int .i64 xm, .int .i64 x2, .int .i64 x3, .int .i64 x4, .int .i64 x5, .int .i64 x6] := (Blk.new _ _ _).kept hb2
      have x1 := B1.cellF
      have y1 := B1.frz
      have z1 := B1.lt
      have HBX := hid B1
      have HB2 : Hid (Below wr.heap.size wr w1) := hid (bl_then (by exact blBy) hb2)
      clear hb2 B1 xb zb c0 c1 c2 c3 c4 c5 c6
      cases hfd : ys.find? (fdI xm) with
      | none =>
        replace HSN := hid (HSN.out.trans (congrArg _ (HNX1.out hfd)))
        dsimp only [tFE]
        go_wp2_with fail
        refine (HTE.out _ _ _ _ (HI.out.kept (by have := HB2.out; exact blBy)) _ _ _ (by have := HLN.out; simp only [List.length_append]; omega)).mono ?_
        rintro e w2 ⟨rfl, h3, -⟩
        replace h3 := hid h3
        go_wp2
        exact ⟨⟨j + 1, by simp, by omega, hid (h3.out.eq (by rw [HSN.out]; simp))⟩, by simp [numAt]; omega⟩
      | some y =>
        have HGM := hid (List.mem_of_find?_eq_some hfd)
        have HKY := hid (K2.out _ HGM.out)
        replace HSN := hid (HSN.out.trans (congrArg _ (HNX2.out y hfd)))
        have HFY := hid (fun W hW => HFB.out W hW y HKY.out)
        have HCY := hid (fun W cs hS hN hb hn => HCX.out W cs hS hN hb hn y HGM.out)
        generalize hD : fdL nm ⟨xn, xm, x2, x3, x4, x5, x6⟩ y (refN la ⟨xn, xm, x2, x3, x4, x5, x6⟩) (refN lb y) (oneN ⟨sn, se, xs, sos, sss, srs⟩ ⟨xn, xm, x2, x3, x4, x5, x6⟩) (oneN ⟨tn, te, ys, tos, tss, trs⟩ y) = D at HSN HCY
        replace hD := hid hD
        generalize refN la ⟨xn, xm, x2, x3, x4, x5, x6⟩ = rx at *
        generalize oneN ⟨sn, se, xs, sos, sss, srs⟩ ⟨xn, xm, x2, x3, x4, x5, x6⟩ = ox at *
        generalize refN lb y = ry at *
        generalize oneN ⟨tn, te, ys, tos, tss, trs⟩ y = oy at *
        obtain ⟨yn, ym, y2, y3, y4, y5, y6⟩ := y
        unfold aNM at HFX HFY HCY
        unfold aFT at HFY
        dsimp only at HFX HFY HCY
        dsimp only [tFE, aFT]
        go_upto_region 7 with fail
        have HI2 := hid (HI.out.kept (show Below wr.heap.size wr (w1.alloc (.cells #[.string (strOfNums yn), .int .i64 ym, .int .i64 y2, .int .i64 y3, .int .i64 y4, .int .i64 y5, .int .i64 y6] 79)) by have := HB2.out; exact blBy))
        have HBX2 := hid (HBX.out.kept (below_alloc (.cells #[.string (strOfNums yn), .int .i64 ym, .int .i64 y2, .int .i64 y3, .int .i64 y4, .int .i64 y5, .int .i64 y6] 79)))
        have HBY : Hid (Blk (w1.alloc (.cells #[.string (strOfNums yn), .int .i64 ym, .int .i64 y2, .int .i64 y3, .int .i64 y4, .int .i64 y5, .int .i64 y6] 79)) w1.heap.size 79 #[.string (strOfNums yn), .int .i64 ym, .int .i64 y2, .int .i64 y3, .int .i64 y4, .int .i64 y5, .int .i64 y6]) := hid (Blk.new _ _ _)
        have ny : w.heap.size < w1.heap.size := by have := HB2.out.size; have := HI.out.a.lt; omega
        have nx : w.heap.size < wr.heap.size := HI.out.a.lt
        clear x1 y1 z1 HB2 HBX HI
        generalize hyb : w1.heap.size = yb at *
        clear hyb
        generalize w1.alloc (.cells #[.string (strOfNums yn), .int .i64 ym, .int .i64 y2, .int .i64 y3, .int .i64 y4, .int .i64 y5, .int .i64 y6] 79) = w2 at *
        have HBX := HBX2
        clear HBX2
        have HBA : Hid (Blk w2 w.heap.size 63 #[.string (strOfNums sn), .bool se, .slice (some ⟨b1, o1, none⟩) xs.length fc, .slice oa sos.length oc, .slice sa sss.length sc, .slice ra srs.length rc, .slice ta la.length tc]) := hid (hA.out ▸ HI2.out.a)
        have HBB : Hid (Blk w2 (w.heap.size + 1) 63 #[.string (strOfNums tn), .bool te, .slice fb ys.length fd, .slice ob tos.length od, .slice sb tss.length sd, .slice rb trs.length rd, .slice tb lb.length td]) := hid (hB.out ▸ HI2.out.b)
        have HLW2 := hid (HI2.out.low H0.out)
        have HU : Hid (Below w2.heap.size w2 w2) := hid (Below.refl _ _)
        go_region_held3 (fun W => W.cell? ⟨w.heap.size, 0, none⟩ = some (.string (strOfNums sn)) ∧ W.cell? ⟨w.heap.size, 1, none⟩ = some (.bool se) ∧ W.cell? ⟨w.heap.size, 2, none⟩ = some (.slice (some ⟨b1, o1, none⟩) xs.length fc) ∧ W.cell? ⟨w.heap.size, 3, none⟩ = some (.slice oa sos.length oc) ∧ W.cell? ⟨w.heap.size, 4, none⟩ = some (.slice sa sss.length sc) ∧ W.cell? ⟨w.heap.size, 5, none⟩ = some (.slice ra srs.length rc) ∧ W.cell? ⟨w.heap.size, 6, none⟩ = some (.slice ta la.length tc) ∧ W.cell? ⟨wr.heap.size, 0, none⟩ = some (.string (strOfNums xn)) ∧ W.cell? ⟨wr.heap.size, 1, none⟩ = some (.int .i64 xm) ∧ W.cell? ⟨wr.heap.size, 2, none⟩ = some (.int .i64 x2) ∧ W.cell? ⟨wr.heap.size, 3, none⟩ = some (.int .i64 x3) ∧ W.cell? ⟨wr.heap.size, 4, none⟩ = some (.int .i64 x4) ∧ W.cell? ⟨wr.heap.size, 5, none⟩ = some (.int .i64 x5) ∧ W.cell? ⟨wr.heap.size, 6, none⟩ = some (.int .i64 x6) ∧ W.cell? ⟨w.heap.size + 1, 0, none⟩ = some (.string (strOfNums tn)) ∧ W.cell? ⟨w.heap.size + 1, 1, none⟩ = some (.bool te) ∧ W.cell? ⟨w.heap.size + 1, 2, none⟩ = some (.slice fb ys.length fd) ∧ W.cell? ⟨w.heap.size + 1, 3, none⟩ = some (.slice ob tos.length od) ∧ W.cell? ⟨w.heap.size + 1, 4, none⟩ = some (.slice sb tss.length sd) ∧ W.cell? ⟨w.heap.size + 1, 5, none⟩ = some (.slice rb trs.length rd) ∧ W.cell? ⟨w.heap.size + 1, 6, none⟩ = some (.slice tb lb.length td) ∧ W.cell? ⟨yb, 0, none⟩ = some (.string (strOfNums yn)) ∧ W.cell? ⟨yb, 1, none⟩ = some (.int .i64 ym) ∧ W.cell? ⟨yb, 2, none⟩ = some (.int .i64 y2) ∧ W.cell? ⟨yb, 3, none⟩ = some (.int .i64 y3) ∧ W.cell? ⟨yb, 4, none⟩ = some (.int .i64 y4) ∧ W.cell? ⟨yb, 5, none⟩ = some (.int .i64 y5) ∧ W.cell? ⟨yb, 6, none⟩ = some (.int .i64 y6)) (first | exact ⟨HCA.out.cell 0 _ rfl, HCA.out.cell 1 _ rfl, HCA.out.cell 2 _ rfl, HCA.out.cell 3 _ rfl, HCA.out.cell 4 _ rfl, HCA.out.cell 5 _ rfl, HCA.out.cell 6 _ rfl, HCX.out.cell 0 _ rfl, HCX.out.cell 1 _ rfl, HCX.out.cell 2 _ rfl, HCX.out.cell 3 _ rfl, HCX.out.cell 4 _ rfl, HCX.out.cell 5 _ rfl, HCX.out.cell 6 _ rfl, HCB.out.cell 0 _ rfl, HCB.out.cell 1 _ rfl, HCB.out.cell 2 _ rfl, HCB.out.cell 3 _ rfl, HCB.out.cell 4 _ rfl, HCB.out.cell 5 _ rfl, HCB.out.cell 6 _ rfl, HCY2.out.cell 0 _ rfl, HCY2.out.cell 1 _ rfl, HCY2.out.cell 2 _ rfl, HCY2.out.cell 3 _ rfl, HCY2.out.cell 4 _ rfl, HCY2.out.cell 5 _ rfl, HCY2.out.cell 6 _ rfl⟩ | exact ⟨(HBA.out.kept HU.out).cell 0 _ rfl, (HBA.out.kept HU.out).cell 1 _ rfl, (HBA.out.kept HU.out).cell 2 _ rfl, (HBA.out.kept HU.out).cell 3 _ rfl, (HBA.out.kept HU.out).cell 4 _ rfl, (HBA.out.kept HU.out).cell 5 _ rfl, (HBA.out.kept HU.out).cell 6 _ rfl, (HBX.out.kept HU.out).cell 0 _ rfl, (HBX.out.kept HU.out).cell 1 _ rfl, (HBX.out.kept HU.out).cell 2 _ rfl, (HBX.out.kept HU.out).cell 3 _ rfl, (HBX.out.kept HU.out).cell 4 _ rfl, (HBX.out.kept HU.out).cell 5 _ rfl, (HBX.out.kept HU.out).cell 6 _ rfl, (HBB.out.kept HU.out).cell 0 _ rfl, (HBB.out.kept HU.out).cell 1 _ rfl, (HBB.out.kept HU.out).cell 2 _ rfl, (HBB.out.kept HU.out).cell 3 _ rfl, (HBB.out.kept HU.out).cell 4 _ rfl, (HBB.out.kept HU.out).cell 5 _ rfl, (HBB.out.kept HU.out).cell 6 _ rfl, (HBY.out.kept HU.out).cell 0 _ rfl, (HBY.out.kept HU.out).cell 1 _ rfl, (HBY.out.kept HU.out).cell 2 _ rfl, (HBY.out.kept HU.out).cell 3 _ rfl, (HBY.out.kept HU.out).cell 4 _ rfl, (HBY.out.kept HU.out).cell 5 _ rfl, (HBY.out.kept HU.out).cell 6 _ rfl⟩) (first | (go_at_call_of 58 (Value.agg #[.string (strOfNums sn), .bool se, .slice (some ⟨b1, o1, none⟩) xs.length fc, .slice oa sos.length oc, .slice sa sss.length sc, .slice ra srs.length rc, .slice ta la.length tc]); refine (HFX.out _ (below_trans (below_trans HLW2.out HU.out) (by first | exact below_drew1 _ | exact Below.refl _ _))).mono ?_; rintro e u1 ⟨rfl, hu1⟩; replace HU := hid (below_trans HU.out (below_trans (by first | exact below_drew1 _ | exact Below.refl _ _) hu1)); clear hu1) | (go_at_call_of 58 (Value.agg #[.string (strOfNums tn), .bool te, .slice fb ys.length fd, .slice ob tos.length od, .slice sb tss.length sd, .slice rb trs.length rd, .slice tb lb.length td]); refine (HFY.out _ (below_trans (below_trans HLW2.out HU.out) (by first | exact below_drew1 _ | exact Below.refl _ _))).mono ?_; rintro e u2 ⟨rfl, hu2⟩; replace HU := hid (below_trans HU.out (below_trans (by first | exact below_drew1 _ | exact Below.refl _ _) hu2)); clear hu2) | (go_at_call 57; refine (HCY.out _ _ (HI2.out.s.kept (below_trans HU.out (by first | exact below_drew1 _ | exact Below.refl _ _))) (HI2.out.n.kept (below_trans HU.out (by first | exact below_drew1 _ | exact Below.refl _ _))) (Nat.le_trans HLW2.out.size (below_trans HU.out (by first | exact below_drew1 _ | exact Below.refl _ _)).size) (by have := HLN.out; simp only [List.length_append]; omega)).mono ?_; rintro e u3 ⟨rfl, h3, h4⟩; have HCA := hid ((HBA.out.kept HU.out).evf h4 (by omega) (by omega) (by decide)); have HCB := hid ((HBB.out.kept HU.out).evf h4 (by omega) (by omega) (by decide)); have HCX := hid ((HBX.out.kept HU.out).evf h4 (by omega) (by omega) (by decide)); have HCY2 := hid ((HBY.out.kept HU.out).evf h4 (by omega) (by omega) (by decide)); replace h3 := hid h3; replace h4 := hid h4))
        all_goals (go_wp2; exact ⟨⟨j + 1, by simp, by omega, hid (((HI2.out.kept HU.out).step (by decide) hp hq h3.out h4.out).eq (by rw [HSN.out]; simp))⟩, by simp [numAt]; omega⟩)
    · have h2 : ¬ (j : Int) < (xs.length : Int) := by omega
      have HE : Hid (xs.take j = xs) := hid (List.take_of_length_le (by omega))
      rw [HE.out] at HI
      have HLN : Hid ((xs.flatMap M).length ≤ 384) := hid (by have := flat_le M 3 HLE.out xs; omega)
      have HLW := hid (HI.out.low H0.out)
      have xa := (hA.out ▸ HI.out.a : Blk wr w.heap.size 63 #[.string (strOfNums sn), .bool se, .slice fa xs.length fc, .slice oa sos.length oc, .slice sa sss.length sc, .slice ra srs.length rc, .slice ta la.length tc]).cellF
      have za := HI.out.a.lt
      have xb := (hB.out ▸ HI.out.b : Blk wr (w.heap.size + 1) 63 #[.string (strOfNums tn), .bool te, .slice fb ys.length fd, .slice ob tos.length od, .slice sb tss.length sd, .slice rb trs.length rd, .slice tb lb.length td]).cellF
      have zb := HI.out.b.lt
      go_wp2_with fail
      refine (HFR.out _ HLW.out).mono ?_
      rintro e w1 ⟨va, vc, rfl, hO, hb2⟩
      have HO := hid hO
      have HI2 := hid (HI.out.kept hb2)
      have hgt : w.heap.size < wr.heap.size := za
      have m3 : (FR.length : Int) ≤ 9223372036854775807 := by have := HFL.out; omega
      clear xa za xb zb hb2 hO HI
      go_wp2
      go_loopw [52] (fun r wz => ∃ j : Nat, r = .int .i64 j ∧ j ≤ FR.length ∧ Hid (wz.ownsRow wr.heap.size 3 1 (.slice va FR.length vc) FR.length (FR.flatMap cI64)) ∧ Hid (EvI w w0.heap.size p q nb nm 63 A B wz (cs ++ xs.flatMap M ++ (FR.take j).map (fun n => ⟨2, 6, nm, n⟩)))) (fun r wz => FR.length - numAt wz r)
      case atStart => exact ⟨0, rfl, by omega, HO, hid (HI2.out.eq (by simp))⟩
      case round =>
        clear HI2 HO
        obtain ⟨j, rfl, hj, HO, HI⟩ := hrel
        by_cases hlt : j < FR.length
        · have h2 : (j : Int) < (FR.length : Int) := by omega
          have HNB := hid (fun k (hk : (Value.slice va FR.length vc).ownBlock = some k) => (own_type HO.out hk).1)
          obtain ⟨b1, o1, rfl, hc⟩ := rowAt (g := cI64) (K := 1) (fun _ => rfl) (own_row (Z := AnyZ) HO.out (fun _ _ => trivial)) (i := j) (x := FR[j]) (by simp [hlt])
          have c0 := hc 0 _ rfl
          simp only [Nat.mul_one, Nat.add_zero] at c0
          clear hc
          have HSN : Hid ((FR.take (j + 1)).map (fun n => (⟨2, 6, nm, n⟩ : CH)) = (FR.take j).map (fun n => ⟨2, 6, nm, n⟩) ++ [⟨2, 6, nm, FR[j]⟩]) := hid (by rw [List.take_succ_eq_append_getElem hlt, List.map_append]; rfl)
          have HLM : Hid (((FR.take j).map (fun n => (⟨2, 6, nm, n⟩ : CH))).length ≤ 128) := hid (by rw [List.length_map, List.length_take]; have := HFL.out; omega)
          generalize FR[j] = x at *
          go_wp2_with fail
          refine (HTE.out _ _ _ _ HI.out _ _ _ (by have := HLN.out; have := HLM.out; simp only [List.length_append]; omega)).mono ?_
          rintro e w2 ⟨rfl, h3, h4⟩
          have HO2 := hid (own_evf HO.out h4 (by decide) (fun k hk => by have := HNB.out k hk; omega))
          replace h3 := hid h3
          clear h4
          go_wp2
          exact ⟨⟨j + 1, by simp, by omega, HO2, hid (h3.out.eq (by rw [HSN.out]; simp))⟩, by simp [numAt]; omega⟩
        · have h2 : ¬ (j : Int) < (FR.length : Int) := by omega
          have HE : Hid (FR.take j = FR) := hid (List.take_of_length_le (by omega))
          rw [HE.out] at HI
          go_wp2
          go_end0
          exact ⟨rfl, HI.out.s.eq (by rw [HL.out]; simp), HI.out.f⟩
end Go.Proofs.YtmjgonckadcbkaaGreatDoor
