/-
  The walk of the law WireEntries.
-/
import Derived.Test.YtaedbgdjjnkloaaWY
namespace Go.Proofs.Ytaedbgdjjnkloaa
open Go.RowKit

/-- GetEntry's answer as parts that can be read. -/
theorem getEntryWr (a : Option Addr) (len cap p : Nat) (xs : List Int) (w : World) (h : Reads w a len cap xs) (hp : p ≤ len) (hreach : len ≤ 140737488355328) :
    Calls Try.prog 23 #[.slice a len cap, .int .i64 p] w fun e w' => ∃ b c, e = .returned (.tuple #[.agg #[.int .i64 (ge xs p).num, .int .i64 (ge xs p).kind, .int .u64 (ge xs p).n, .slice b (ge xs p).b.length c], .int .i64 (ge xs p).next, .int .i64 (ge xs p).err]) ∧ Reads w' b (ge xs p).b.length c (ge xs p).b ∧ Below w.heap.size w w' := by
  refine (getEntryW a len cap p xs w h hp hreach).mono ?_
  rintro e w' ⟨v, rfl, ho, hb⟩
  obtain ⟨b, c, rfl, hr⟩ := own_reads ho (ge_good (bd_mem h.bd) p).2
  exact ⟨b, c, rfl, hr, hb⟩
theorem getEntryRr (a : Option Addr) (len cap p : Nat) (xs : List Int) (w : World) (h : Reads w a len cap xs) (hp : p ≤ len) (hreach : len ≤ 140737488355328) :
    Calls Try.prog 43 #[.slice a len cap, .int .i64 p] w fun e w' => ∃ b c, e = .returned (.tuple #[.agg #[.int .i64 (ge xs p).num, .int .i64 (ge xs p).kind, .int .u64 (ge xs p).n, .slice b (ge xs p).b.length c], .int .i64 (ge xs p).next, .int .i64 (ge xs p).err]) ∧ Reads w' b (ge xs p).b.length c (ge xs p).b ∧ Below w.heap.size w w' := by
  refine (getEntryR a len cap p xs w h hp hreach).mono ?_
  rintro e w' ⟨v, rfl, ho, hb⟩
  obtain ⟨b, c, rfl, hr⟩ := own_reads ho (ge_good (bd_mem h.bd) p).2
  exact ⟨b, c, rfl, hr, hb⟩
theorem joinWr (a : Option Addr) (len cap : Nat) (es : List Ent) (w : World) (h : ReadsL w a len cap es) (hbulk : bulk es ≤ 70368744177664) (hg : ∀ x ∈ (jn es).1, 0 ≤ x ∧ x ≤ 255) :
    Calls Try.prog 40 #[.slice a len cap] w fun e w' => ∃ b c, e = .returned (.tuple #[.slice b (jn es).1.length c, .int .i64 (jn es).2]) ∧ Reads w' b (jn es).1.length c (jn es).1 ∧ Below w.heap.size w w' := by
  refine (joinW a len cap es w h hbulk).mono ?_
  rintro e w' ⟨v, rfl, ho, hb⟩
  obtain ⟨b, c, rfl, hr⟩ := own_reads ho hg
  exact ⟨b, c, rfl, hr, hb⟩
theorem jnF_bd : ∀ (l : List Ent) (acc : List Int), (∀ x ∈ l, Good x ∧ x.b.length < 18446744073709551616) → (∀ x ∈ acc, 0 ≤ x ∧ x ≤ 255) → ∀ x ∈ (jnF l acc).1, 0 ≤ x ∧ x ≤ 255
  | [], acc, _, ha => ha
  | y :: r, acc, hl, ha => by
    cases h : (ef y.num y.kind y.n y.b.length != 0) with
    | true => rw [jnF_err h]; simp
    | false =>
      rw [jnF_more h]
      have hy := hl y (by simp)
      have he : ef y.num y.kind y.n y.b.length = 0 := by simpa using h
      exact jnF_bd r _ (fun x hx => hl x (by simp [hx])) (fun x hx => by
        rcases List.mem_append.1 hx with h1 | h1
        · exact ha x h1
        · exact pe_bd (ef_ok he).1 hy.1.1.1 hy.1.1.2 hy.1.2 hy.2 x h1)
/-- What can be read is good. -/
theorem readsL_good {w : World} {a : Option Addr} {len cap : Nat} {es : List Ent} (h : ReadsL w a len cap es) : ∀ x ∈ es, Good x ∧ x.b.length < 18446744073709551616 := by
  intro x hx
  obtain ⟨i, hi, rfl⟩ := List.mem_iff_getElem.1 hx
  rcases h.cells with ⟨h0, _⟩ | ⟨b, off, _, hc⟩
  · have := h.length; omega
  · obtain ⟨sa, sl, sc, _, _, _, _, hr, hn⟩ := hc i es[i] (List.getElem?_eq_getElem hi)
    have := hr.length
    have := hr.le
    have := hr.max
    exact ⟨⟨hn, bd_mem hr.bd⟩, by omega⟩


set_option maxRecDepth 100000 in
set_option maxHeartbeats 8000000 in
theorem entriesIn (num kind xn : Int) (xa la ba : Option Addr) (xl xc ll lc bl bc : Nat) (ys xs : List Int) (es : List Ent) (q : Nat) (w : World) (hx0 : 0 ≤ xn) (hx1 : xn ≤ 18446744073709551615)
    (hx : Reads w xa xl xc ys) (hl : ReadsL w la ll lc es) (hbs : Reads w ba bl bc xs) (sx : xl ≤ 1048576) (sb : bl ≤ 1048576) (sl : ll ≤ 1048576) (hbulk : bulk es ≤ 20971520) (hq : q ≤ bl) :
    Calls Try.prog 7 #[.agg #[.int .i64 num, .int .i64 kind, .int .u64 xn, .slice xa xl xc], .slice la ll lc, .slice ba bl bc, .int .i64 q] w fun e w' => e = .returned (.bool true) ∧ Below w.heap.size w w' := by
  have hq1 : decide ((q : Int) < 0) = false := by simp
  have hq2 : decide ((bl : Int) < q) = false := by simp; omega
  have b0 : (w.alloc (.cells #[.int .i64 num, .int .i64 kind, .int .u64 xn, .slice xa xl xc] 45)).cell? ⟨w.heap.size, 0, none⟩ = some (.int .i64 num) := by rw [World.cell?_alloc_at _ _ _ _ rfl]; rfl
  have b1 : (w.alloc (.cells #[.int .i64 num, .int .i64 kind, .int .u64 xn, .slice xa xl xc] 45)).cell? ⟨w.heap.size, 1, none⟩ = some (.int .i64 kind) := by rw [World.cell?_alloc_at _ _ _ _ rfl]; rfl
  have b2 : (w.alloc (.cells #[.int .i64 num, .int .i64 kind, .int .u64 xn, .slice xa xl xc] 45)).cell? ⟨w.heap.size, 2, none⟩ = some (.int .u64 xn) := by rw [World.cell?_alloc_at _ _ _ _ rfl]; rfl
  have b3 : (w.alloc (.cells #[.int .i64 num, .int .i64 kind, .int .u64 xn, .slice xa xl xc] 45)).cell? ⟨w.heap.size, 3, none⟩ = some (.slice xa xl xc) := by rw [World.cell?_alloc_at _ _ _ _ rfl]; rfl
  have hb : Below w.heap.size w (w.alloc (.cells #[.int .i64 num, .int .i64 kind, .int .u64 xn, .slice xa xl xc] 45)) := below_alloc _
  have hxl : xl ≤ 9223372036854775807 := by omega
  have hll : es.length = ll := hl.length
  have HLL := hid hll
  have HJG := hid (jnF_bd es [] (readsL_good hl) (by simp))
  have HX := hid hx
  have HL := hid hl
  have HB := hid hbs
  clear hx hl hbs hll
  go_enter Try.func7, Try.ntmps7
  go_wp2_with fail
  generalize w.alloc (.cells #[.int .i64 num, .int .i64 kind, .int .u64 xn, .slice xa xl xc] 45) = w0 at b0 b1 b2 b3 hb ⊢
  refine (putEntryAny num kind xn xa xl xc ys _ (reads_kept HX.out hb) hx0 (by omega) (by omega)).mono ?_
  rintro e w1 ⟨pa, pcap, rfl, hp, hbL⟩
  have b0 := cell_kept b0 hbL
  have b1 := cell_kept b1 hbL
  have b2 := cell_kept b2 hbL
  have b3 := cell_kept b3 hbL
  have hb := below_trans hb hbL
  clear hbL
  go_wp2_with fail
  refine (getEntryWr _ _ _ q xs _ (reads_kept HB.out hb) hq (by omega)).mono ?_
  rintro e w2 ⟨ya, yc, rfl, hy, hbL⟩
  generalize hG : ge xs q = G at hy ⊢
  have HG := hid hG
  clear hG
  obtain ⟨gnum, gkind, gn, gb, gnx, ger⟩ := G
  dsimp only at hy ⊢
  have hp := reads_kept hp hbL
  have b0 := cell_kept b0 hbL
  have b1 := cell_kept b1 hbL
  have b2 := cell_kept b2 hbL
  have b3 := cell_kept b3 hbL
  have hb := below_trans hb hbL
  clear hbL
  go_wp2_with fail
  have y0 : (w2.alloc (.cells #[.int .i64 gnum, .int .i64 gkind, .int .u64 gn, .slice ya gb.length yc] 45)).cell? ⟨w2.heap.size, 0, none⟩ = some (.int .i64 gnum) := by rw [World.cell?_alloc_at _ _ _ _ rfl]; rfl
  have y1 : (w2.alloc (.cells #[.int .i64 gnum, .int .i64 gkind, .int .u64 gn, .slice ya gb.length yc] 45)).cell? ⟨w2.heap.size, 1, none⟩ = some (.int .i64 gkind) := by rw [World.cell?_alloc_at _ _ _ _ rfl]; rfl
  have y2 : (w2.alloc (.cells #[.int .i64 gnum, .int .i64 gkind, .int .u64 gn, .slice ya gb.length yc] 45)).cell? ⟨w2.heap.size, 2, none⟩ = some (.int .u64 gn) := by rw [World.cell?_alloc_at _ _ _ _ rfl]; rfl
  have y3 : (w2.alloc (.cells #[.int .i64 gnum, .int .i64 gkind, .int .u64 gn, .slice ya gb.length yc] 45)).cell? ⟨w2.heap.size, 3, none⟩ = some (.slice ya gb.length yc) := by rw [World.cell?_alloc_at _ _ _ _ rfl]; rfl
  have hbL : Below w2.heap.size w2 (w2.alloc (.cells #[.int .i64 gnum, .int .i64 gkind, .int .u64 gn, .slice ya gb.length yc] 45)) := below_alloc _
  generalize w2.alloc (.cells #[.int .i64 gnum, .int .i64 gkind, .int .u64 gn, .slice ya gb.length yc] 45) = w3 at hbL y0 y1 y2 y3 ⊢
  have hp := reads_kept hp hbL
  have hy := reads_kept hy hbL
  have b0 := cell_kept b0 hbL
  have b1 := cell_kept b1 hbL
  have b2 := cell_kept b2 hbL
  have b3 := cell_kept b3 hbL
  have hb := below_trans hb hbL
  clear hbL
  refine (splitWr _ _ _ xs _ (reads_kept HB.out hb) (by omega)).mono ?_
  rintro e w4 ⟨sa, scap, rfl, hs, hbL⟩
  have hp := reads_kept hp hbL
  have hy := reads_kept hy hbL
  have y0 := cell_kept y0 hbL
  have y1 := cell_kept y1 hbL
  have y2 := cell_kept y2 hbL
  have y3 := cell_kept y3 hbL
  have b0 := cell_kept b0 hbL
  have b1 := cell_kept b1 hbL
  have b2 := cell_kept b2 hbL
  have b3 := cell_kept b3 hbL
  have hb := below_trans hb hbL
  clear hbL
  generalize hS : sp xs = S at hs ⊢
  have HS := hid hS
  clear hS
  go_wp2_with fail
  refine (joinWr _ _ _ es _ (readsL_kept HL.out hb) (by omega) HJG.out).mono ?_
  rintro e w5 ⟨ja, jc, rfl, hj, hbL⟩
  have hp := reads_kept hp hbL
  have hy := reads_kept hy hbL
  have hs := readsL_kept hs hbL
  have y0 := cell_kept y0 hbL
  have y1 := cell_kept y1 hbL
  have y2 := cell_kept y2 hbL
  have y3 := cell_kept y3 hbL
  have b0 := cell_kept b0 hbL
  have b1 := cell_kept b1 hbL
  have b2 := cell_kept b2 hbL
  have b3 := cell_kept b3 hbL
  have hb := below_trans hb hbL
  clear hbL
  generalize hJ : jn es = J at hj ⊢
  have HJ := hid hJ
  clear hJ
  go_wp2_with fail
  refine (refPutEntryAny num kind xn xa xl xc ys _ (reads_kept HX.out hb) hx0 (by omega) (by omega)).mono ?_
  rintro e w6 ⟨wa, wc, rfl, hw, hbL⟩
  have hp := reads_kept hp hbL
  have hy := reads_kept hy hbL
  have hj := reads_kept hj hbL
  have hs := readsL_kept hs hbL
  have y0 := cell_kept y0 hbL
  have y1 := cell_kept y1 hbL
  have y2 := cell_kept y2 hbL
  have y3 := cell_kept y3 hbL
  have hb := below_trans hb hbL
  clear hbL
  clear b0 b1 b2 b3
  go_wp2_with fail
  refine (splitRr _ _ _ xs _ (reads_kept HB.out hb) (by omega)).mono ?_
  rintro e w7 ⟨ta, tcap, rfl, ht, hbL⟩
  rw [HS.out] at ht ⊢
  have hp := reads_kept hp hbL
  have hy := reads_kept hy hbL
  have hj := reads_kept hj hbL
  have hw := reads_kept hw hbL
  have hs := readsL_kept hs hbL
  have y0 := cell_kept y0 hbL
  have y1 := cell_kept y1 hbL
  have y2 := cell_kept y2 hbL
  have y3 := cell_kept y3 hbL
  have hb := below_trans hb hbL
  clear hbL
  go_wp2_with fail
  refine (awakeW _).mono ?_
  rintro e w8 ⟨rfl, hbL⟩
  have hp := reads_kept hp hbL
  have hy := reads_kept hy hbL
  have hj := reads_kept hj hbL
  have hw := reads_kept hw hbL
  have hs := readsL_kept hs hbL
  have ht := readsL_kept ht hbL
  have y0 := cell_kept y0 hbL
  have y1 := cell_kept y1 hbL
  have y2 := cell_kept y2 hbL
  have y3 := cell_kept y3 hbL
  have hb := below_trans hb hbL
  clear hbL
  go_wp2_with fail
  refine (sameYes _ _ _ _ _ _ _ _ hp hw).mono ?_
  rintro e u ⟨rfl, rfl⟩
  clear hp hw
  go_wp2_with fail
  refine (listYes _ _ _ _ _ _ _ _ hs ht).mono ?_
  rintro e w9 ⟨rfl, hbL⟩
  clear hs ht
  have hy := reads_kept hy hbL
  have hj := reads_kept hj hbL
  have y0 := cell_kept y0 hbL
  have y1 := cell_kept y1 hbL
  have y2 := cell_kept y2 hbL
  have y3 := cell_kept y3 hbL
  have hb := below_trans hb hbL
  clear hbL
  go_wp2_with fail
  have HY0 := hid y0
  have HY1 := hid y1
  have HY2 := hid y2
  have HY3 := hid y3
  have HYR := hid hy
  have HJR := hid hj
  have HBB := hid hb
  clear y0 y1 y2 y3 hy hj hb
  go_loopw [22, 23] (fun o r wr => ∃ (k : Nat) (acc : List Int), k ≤ ll ∧ r = .int .i64 k ∧ acc.length + bulk (es.drop k) ≤ bulk es ∧ wr.ownsRow w9.heap.size 5 1 o acc.length (acc.map (Value.int .u8)) ∧ Below w9.heap.size w9 wr ∧ Hid (J = jnF (es.drop k) acc)) (fun _ r _ => ll - (intOf r).toNat)
  case atStart => exact ⟨0, [], by omega, rfl, by simp, World.ownsRow_nil _ _ _ _, Below.refl _ _, by show _ = _; rw [← HJ.out]; rfl⟩
  case round =>
    obtain ⟨k, acc, hk, rfl, hacc, ho, hbw, HS2⟩ := hrel
    have hbt := below_trans HBB.out hbw
    by_cases hlt : k < ll
    · obtain ⟨x, hx⟩ : ∃ x, es[k]? = some x := ⟨_, List.getElem?_eq_getElem (by rw [HLL.out]; exact hlt)⟩
      have hd : es.drop k = x :: es.drop (k + 1) := by
        obtain ⟨hk', e⟩ := List.getElem?_eq_some_iff.1 hx
        rw [← e]; exact List.drop_eq_getElem_cons hk'
      have HD := hid hd
      rcases HL.out.cells with ⟨h, _⟩ | ⟨b, off, rfl, hc1⟩
      · omega
      obtain ⟨ea, el, ec, q0, q1, q2, q3, hr1, hn0, hn1⟩ := hc1 k x hx
      have p0 := cell_kept q0 hbt
      have p1 := cell_kept q1 hbt
      have p2 := cell_kept q2 hbt
      have p3 := cell_kept q3 hbt
      have hxl2 := hr1.length
      have hpe := pe_len (num := x.num) (kind := x.kind) (n := x.n) (ys := x.b)
      have hbk : acc.length + (20 + el + bulk (es.drop (k + 1))) ≤ bulk es := by
        rw [hd] at hacc; simp only [bulk] at hacc; omega
      have HXL := hid hxl2
      have HO2 := hid ho
      have HP := hid (refPutEntryAny x.num x.kind x.n ea el ec x.b wr (reads_kept hr1 hbt) hn0 hn1 (by omega))
      have HBW := hid hbw
      have hpe' : (pe x.num x.kind x.n x.b).length ≤ 20 + el := by omega
      clear hc1 q0 q1 q2 q3 hx hr1 hd hxl2 ho hacc hbw hpe
      cases he : (ef x.num x.kind x.n el != 0) with
      | true =>
        have he1 : J = ([], ef x.num x.kind x.n el) := by rw [HS2.out, HD.out, jnF_err (by rw [HXL.out]; exact he), HXL.out]
        subst he1
        have hll0 : ((ll : Int) == 0) = false := by simp; omega
        go_wp2_with fail
        refine HP.out.mono ?_
        rintro e wz ⟨oa, oc, rfl, hoq, hbL⟩
        have hbz := below_trans HBW.out hbL
        have hbtz := below_trans hbt hbL
        clear hoq hbL hbt
        have y0 := cell_kept HY0.out hbz
        have y1 := cell_kept HY1.out hbz
        have y2 := cell_kept HY2.out hbz
        have y3 := cell_kept HY3.out hbz
        have hyz := reads_kept HYR.out hbz
        have hzz := getEntryRr _ _ _ q xs wz (reads_kept HB.out hbtz) hq (by omega)
        rw [HG.out] at hzz
        have HZ := hid hzz
        clear hzz
        go_wp2_with fail
        refine HZ.out.mono ?_
        rintro e wa1 ⟨za, zc, rfl, hz, hbL⟩
        try dsimp only at hz
        have y0 := cell_kept y0 hbL
        have y1 := cell_kept y1 hbL
        have y2 := cell_kept y2 hbL
        have y3 := cell_kept y3 hbL
        have hyz := reads_kept hyz hbL
        have hbtz := below_trans hbtz hbL
        clear hbL
        have hbL : Below wa1.heap.size wa1 (wa1.alloc (.cells #[.int .i64 gnum, .int .i64 gkind, .int .u64 gn, .slice za gb.length zc] 45)) := below_alloc _
        have y0 := cell_kept y0 hbL
        have y1 := cell_kept y1 hbL
        have y2 := cell_kept y2 hbL
        have y3 := cell_kept y3 hbL
        have hyz := reads_kept hyz hbL
        have hz := reads_kept hz hbL
        have hbtz := below_trans hbtz hbL
        have HSE := hid (sameEntW gnum gkind gn gb ya za gb.length yc gb.length zc _ hyz hz)
        clear hbL hz hyz
        go_wp2_with fail
        refine HSE.out.mono ?_
        rintro e wa2 ⟨rfl, hbL⟩
        go_wp2
        go_ret
        exact ⟨by simp, below_trans hbtz hbL⟩
      | false =>
        have he0 : ef x.num x.kind x.n el = 0 := by simpa using he
        have epp : pp x.num x.kind x.n x.b = pe x.num x.kind x.n x.b := by rw [pp, HXL.out, if_pos he0]
        rw [epp, he0] at HP
        have hJ1 : J = jnF (es.drop (k + 1)) (acc ++ pe x.num x.kind x.n x.b) := by rw [HS2.out, HD.out, jnF_more (by rw [HXL.out]; exact he)]
        have HJ1 := hid hJ1
        have hbt1 := hid hbt
        clear he0 epp hJ1 he hbt
        have hae : acc.length + (pe x.num x.kind x.n x.b).length ≤ 140737488355328 := by omega
        by_cases hlast : k = ll - 1
        · have hdl : es.drop (k + 1) = [] := List.drop_eq_nil_of_le (by have := HLL.out; omega)
          have he1 : J = (acc ++ pe x.num x.kind x.n x.b, 0) := by rw [HJ1.out, hdl]; rfl
          have hJ2 : (J.2 != 0) = false := by rw [he1]; rfl
          have HJE := hid he1
          have hkb : ((k : Int) == (ll : Int) - 1) = true := by simp; omega
          clear hlast hdl he1
          go_wp2_with fail
          refine HP.out.mono ?_
          rintro e wz ⟨oa, oc, rfl, hoq, hbL⟩
          obtain ⟨v', w', r1, o1, g1⟩ := append_bytes w9.heap.size _ _ _ wz oa _ oc _ (own_kept HO2.out hbL) (by have := HBW.out.size; have := hbL.size; omega) hoq hae
          have R1 := hid r1
          have hbz : Below w9.heap.size w9 w' := (below_trans HBW.out hbL).trans (g1.below (by have := HBW.out.size; have := hbL.size; omega) (fun k hk => (HO2.out.lt k hk).1))
          have hown' : w'.ownsRow w9.heap.size 5 1 v' (acc ++ pe x.num x.kind x.n x.b).length ((acc ++ pe x.num x.kind x.n x.b).map (Value.int .u8)) := own_step o1 rfl
          obtain ⟨ra, rc, rfl, hrr⟩ := own_reads hown' (by have := HJG.out; rw [show jnF es [] = jn es from rfl, HJ.out, HJE.out] at this; exact this)
          have elen : (acc ++ pe x.num x.kind x.n x.b).length = acc.length + (pe x.num x.kind x.n x.b).length := List.length_append
          have hjr : Reads w' ja J.1.length jc (acc ++ pe x.num x.kind x.n x.b) := reads_eq (reads_kept HJR.out hbz) (by rw [HJE.out])
          rw [elen] at hrr
          have HSM := hid (sameYes _ _ _ _ _ _ _ _ hjr hrr)
          have HEL := hid elen
          have HOW := hid hown'
          have HBZ := hid hbz
          clear r1 o1 g1 hoq hbL hrr hjr hown' hbz elen
          go_wp2_with (first
            | (at_builtin; refine wpList_append_ran rfl (.tmp 109) (.tmp 110) 22 22 rfl rfl _ _ _ w' rfl rfl R1.out ?_)
            | fail)
          refine HSM.out.mono ?_
          rintro e u ⟨rfl, rfl⟩
          go_wp2
          exact ⟨⟨k + 1, acc ++ pe x.num x.kind x.n x.b, by omega, by go_num, by have := HEL.out; omega, by have := HOW.out; rw [HEL.out] at this; rw [HEL.out]; exact this, HBZ.out, HJ1.out⟩, by simp [intOf]; omega⟩
        · have hkb : ((k : Int) == (ll : Int) - 1) = false := by simp; omega
          clear hlast
          go_wp2_with fail
          refine HP.out.mono ?_
          rintro e wz ⟨oa, oc, rfl, hoq, hbL⟩
          obtain ⟨v', w', r1, o1, g1⟩ := append_bytes w9.heap.size _ _ _ wz oa _ oc _ (own_kept HO2.out hbL) (by have := HBW.out.size; have := hbL.size; omega) hoq hae
          have R1 := hid r1
          have hbz : Below w9.heap.size w9 w' := (below_trans HBW.out hbL).trans (g1.below (by have := HBW.out.size; have := hbL.size; omega) (fun k hk => (HO2.out.lt k hk).1))
          have hown' : w'.ownsRow w9.heap.size 5 1 v' (acc ++ pe x.num x.kind x.n x.b).length ((acc ++ pe x.num x.kind x.n x.b).map (Value.int .u8)) := own_step o1 rfl
          have elen : (acc ++ pe x.num x.kind x.n x.b).length = acc.length + (pe x.num x.kind x.n x.b).length := List.length_append
          have HEL := hid elen
          have HOW := hid hown'
          have HBZ := hid hbz
          clear r1 o1 g1 hoq hbL hown' hbz elen
          go_wp2_with (first
            | (at_builtin; refine wpList_append_ran rfl (.tmp 109) (.tmp 110) 22 22 rfl rfl _ _ _ w' rfl rfl R1.out ?_)
            | fail)
          exact ⟨⟨k + 1, acc ++ pe x.num x.kind x.n x.b, by omega, by go_num, by have := HEL.out; omega, HOW.out, HBZ.out, HJ1.out⟩, by simp [intOf]; omega⟩
    · obtain rfl : k = ll := by omega
      have hdl : es.drop k = [] := List.drop_eq_nil_of_le (by have := HLL.out; omega)
      have hJ0 : J = (acc, 0) := by rw [HS2.out, hdl]; rfl
      have hbz := hbw
      have hbtz := hbt
      by_cases hz0 : k = 0
      · subst hz0
        have he0 : acc = [] := by
          have h1 : es = [] := List.eq_nil_of_length_eq_zero HLL.out
          rw [h1] at hacc
          simp [bulk] at hacc
          exact hacc
        subst he0
        subst hJ0
        clear ho hdl hacc hbw hbt
        have y0 := cell_kept HY0.out hbz
        have y1 := cell_kept HY1.out hbz
        have y2 := cell_kept HY2.out hbz
        have y3 := cell_kept HY3.out hbz
        have hyz := reads_kept HYR.out hbz
        have hzz := getEntryRr _ _ _ q xs wr (reads_kept HB.out hbtz) hq (by omega)
        rw [HG.out] at hzz
        have HZ := hid hzz
        clear hzz
        go_wp2_with fail
        refine HZ.out.mono ?_
        rintro e wa1 ⟨za, zc, rfl, hz, hbL⟩
        try dsimp only at hz
        have y0 := cell_kept y0 hbL
        have y1 := cell_kept y1 hbL
        have y2 := cell_kept y2 hbL
        have y3 := cell_kept y3 hbL
        have hyz := reads_kept hyz hbL
        have hbtz := below_trans hbtz hbL
        clear hbL
        have hbL : Below wa1.heap.size wa1 (wa1.alloc (.cells #[.int .i64 gnum, .int .i64 gkind, .int .u64 gn, .slice za gb.length zc] 45)) := below_alloc _
        have y0 := cell_kept y0 hbL
        have y1 := cell_kept y1 hbL
        have y2 := cell_kept y2 hbL
        have y3 := cell_kept y3 hbL
        have hyz := reads_kept hyz hbL
        have hz := reads_kept hz hbL
        have hbtz := below_trans hbtz hbL
        have HSE := hid (sameEntW gnum gkind gn gb ya za gb.length yc gb.length zc _ hyz hz)
        clear hbL hz hyz
        go_wp2_with fail
        refine HSE.out.mono ?_
        rintro e wa2 ⟨rfl, hbL⟩
        go_wp2
        go_ret
        exact ⟨by simp, below_trans hbtz hbL⟩
      · have hll0 : ((k : Int) == 0) = false := by simp; omega
        clear ho hdl hacc hbw hbt hz0 hJ0
        have y0 := cell_kept HY0.out hbz
        have y1 := cell_kept HY1.out hbz
        have y2 := cell_kept HY2.out hbz
        have y3 := cell_kept HY3.out hbz
        have hyz := reads_kept HYR.out hbz
        have hzz := getEntryRr _ _ _ q xs wr (reads_kept HB.out hbtz) hq (by omega)
        rw [HG.out] at hzz
        have HZ := hid hzz
        clear hzz
        go_wp2_with fail
        refine HZ.out.mono ?_
        rintro e wa1 ⟨za, zc, rfl, hz, hbL⟩
        try dsimp only at hz
        have y0 := cell_kept y0 hbL
        have y1 := cell_kept y1 hbL
        have y2 := cell_kept y2 hbL
        have y3 := cell_kept y3 hbL
        have hyz := reads_kept hyz hbL
        have hbtz := below_trans hbtz hbL
        clear hbL
        have hbL : Below wa1.heap.size wa1 (wa1.alloc (.cells #[.int .i64 gnum, .int .i64 gkind, .int .u64 gn, .slice za gb.length zc] 45)) := below_alloc _
        have y0 := cell_kept y0 hbL
        have y1 := cell_kept y1 hbL
        have y2 := cell_kept y2 hbL
        have y3 := cell_kept y3 hbL
        have hyz := reads_kept hyz hbL
        have hz := reads_kept hz hbL
        have hbtz := below_trans hbtz hbL
        have HSE := hid (sameEntW gnum gkind gn gb ya za gb.length yc gb.length zc _ hyz hz)
        clear hbL hz hyz
        go_wp2_with fail
        refine HSE.out.mono ?_
        rintro e wa2 ⟨rfl, hbL⟩
        go_wp2
        go_ret
        exact ⟨by simp, below_trans hbtz hbL⟩

set_option maxRecDepth 100000 in
set_option maxHeartbeats 8000000 in
theorem entriesNeg (num kind xn : Int) (xa la ba : Option Addr) (xl xc ll lc bl bc : Nat) (ys xs : List Int) (es : List Ent) (p : Int) (w : World) (hx0 : 0 ≤ xn) (hx1 : xn ≤ 18446744073709551615)
    (hx : Reads w xa xl xc ys) (hl : ReadsL w la ll lc es) (hbs : Reads w ba bl bc xs) (sx : xl ≤ 1048576) (sb : bl ≤ 1048576) (sl : ll ≤ 1048576) (hbulk : bulk es ≤ 20971520) (hp0 : p < 0) :
    Calls Try.prog 7 #[.agg #[.int .i64 num, .int .i64 kind, .int .u64 xn, .slice xa xl xc], .slice la ll lc, .slice ba bl bc, .int .i64 p] w fun e w' => e = .returned (.bool true) ∧ Below w.heap.size w w' := by
  have hq1 : decide (p < 0) = true := by simpa using hp0
  have HO := hid (show p < 0 ∨ (bl : Int) < p from .inl hp0)
  have b0 : (w.alloc (.cells #[.int .i64 num, .int .i64 kind, .int .u64 xn, .slice xa xl xc] 45)).cell? ⟨w.heap.size, 0, none⟩ = some (.int .i64 num) := by rw [World.cell?_alloc_at _ _ _ _ rfl]; rfl
  have b1 : (w.alloc (.cells #[.int .i64 num, .int .i64 kind, .int .u64 xn, .slice xa xl xc] 45)).cell? ⟨w.heap.size, 1, none⟩ = some (.int .i64 kind) := by rw [World.cell?_alloc_at _ _ _ _ rfl]; rfl
  have b2 : (w.alloc (.cells #[.int .i64 num, .int .i64 kind, .int .u64 xn, .slice xa xl xc] 45)).cell? ⟨w.heap.size, 2, none⟩ = some (.int .u64 xn) := by rw [World.cell?_alloc_at _ _ _ _ rfl]; rfl
  have b3 : (w.alloc (.cells #[.int .i64 num, .int .i64 kind, .int .u64 xn, .slice xa xl xc] 45)).cell? ⟨w.heap.size, 3, none⟩ = some (.slice xa xl xc) := by rw [World.cell?_alloc_at _ _ _ _ rfl]; rfl
  have hb : Below w.heap.size w (w.alloc (.cells #[.int .i64 num, .int .i64 kind, .int .u64 xn, .slice xa xl xc] 45)) := below_alloc _
  have hxl : xl ≤ 9223372036854775807 := by omega
  have hll : es.length = ll := hl.length
  have HLL := hid hll
  have HJG := hid (jnF_bd es [] (readsL_good hl) (by simp))
  have HX := hid hx
  have HL := hid hl
  have HB := hid hbs
  clear hx hl hbs hll
  go_enter Try.func7, Try.ntmps7
  go_wp2_with fail
  generalize w.alloc (.cells #[.int .i64 num, .int .i64 kind, .int .u64 xn, .slice xa xl xc] 45) = w0 at b0 b1 b2 b3 hb ⊢
  refine (putEntryAny num kind xn xa xl xc ys _ (reads_kept HX.out hb) hx0 (by omega) (by omega)).mono ?_
  rintro e w1 ⟨pa, pcap, rfl, hp, hbL⟩
  have b0 := cell_kept b0 hbL
  have b1 := cell_kept b1 hbL
  have b2 := cell_kept b2 hbL
  have b3 := cell_kept b3 hbL
  have hb := below_trans hb hbL
  clear hbL
  go_wp2_with fail
  refine (getEntryOut _ _ _ p _ (by omega) HO.out).mono ?_
  rintro e w2 ⟨rfl, hbL⟩
  have hy := reads_nil w2
  have hp := reads_kept hp hbL
  have b0 := cell_kept b0 hbL
  have b1 := cell_kept b1 hbL
  have b2 := cell_kept b2 hbL
  have b3 := cell_kept b3 hbL
  have hb := below_trans hb hbL
  clear hbL
  go_wp2_with fail
  have y0 : (w2.alloc (.cells #[.int .i64 0, .int .i64 0, .int .u64 0, .slice none 0 0] 45)).cell? ⟨w2.heap.size, 0, none⟩ = some (.int .i64 0) := by rw [World.cell?_alloc_at _ _ _ _ rfl]; rfl
  have y1 : (w2.alloc (.cells #[.int .i64 0, .int .i64 0, .int .u64 0, .slice none 0 0] 45)).cell? ⟨w2.heap.size, 1, none⟩ = some (.int .i64 0) := by rw [World.cell?_alloc_at _ _ _ _ rfl]; rfl
  have y2 : (w2.alloc (.cells #[.int .i64 0, .int .i64 0, .int .u64 0, .slice none 0 0] 45)).cell? ⟨w2.heap.size, 2, none⟩ = some (.int .u64 0) := by rw [World.cell?_alloc_at _ _ _ _ rfl]; rfl
  have y3 : (w2.alloc (.cells #[.int .i64 0, .int .i64 0, .int .u64 0, .slice none 0 0] 45)).cell? ⟨w2.heap.size, 3, none⟩ = some (.slice none 0 0) := by rw [World.cell?_alloc_at _ _ _ _ rfl]; rfl
  have hbL : Below w2.heap.size w2 (w2.alloc (.cells #[.int .i64 0, .int .i64 0, .int .u64 0, .slice none 0 0] 45)) := below_alloc _
  generalize w2.alloc (.cells #[.int .i64 0, .int .i64 0, .int .u64 0, .slice none 0 0] 45) = w3 at hbL y0 y1 y2 y3 ⊢
  have hp := reads_kept hp hbL
  have hy := reads_kept hy hbL
  have b0 := cell_kept b0 hbL
  have b1 := cell_kept b1 hbL
  have b2 := cell_kept b2 hbL
  have b3 := cell_kept b3 hbL
  have hb := below_trans hb hbL
  clear hbL
  refine (splitWr _ _ _ xs _ (reads_kept HB.out hb) (by omega)).mono ?_
  rintro e w4 ⟨sa, scap, rfl, hs, hbL⟩
  have hp := reads_kept hp hbL
  have hy := reads_kept hy hbL
  have y0 := cell_kept y0 hbL
  have y1 := cell_kept y1 hbL
  have y2 := cell_kept y2 hbL
  have y3 := cell_kept y3 hbL
  have b0 := cell_kept b0 hbL
  have b1 := cell_kept b1 hbL
  have b2 := cell_kept b2 hbL
  have b3 := cell_kept b3 hbL
  have hb := below_trans hb hbL
  clear hbL
  generalize hS : sp xs = S at hs ⊢
  have HS := hid hS
  clear hS
  go_wp2_with fail
  refine (joinWr _ _ _ es _ (readsL_kept HL.out hb) (by omega) HJG.out).mono ?_
  rintro e w5 ⟨ja, jc, rfl, hj, hbL⟩
  have hp := reads_kept hp hbL
  have hy := reads_kept hy hbL
  have hs := readsL_kept hs hbL
  have y0 := cell_kept y0 hbL
  have y1 := cell_kept y1 hbL
  have y2 := cell_kept y2 hbL
  have y3 := cell_kept y3 hbL
  have b0 := cell_kept b0 hbL
  have b1 := cell_kept b1 hbL
  have b2 := cell_kept b2 hbL
  have b3 := cell_kept b3 hbL
  have hb := below_trans hb hbL
  clear hbL
  generalize hJ : jn es = J at hj ⊢
  have HJ := hid hJ
  clear hJ
  go_wp2_with fail
  refine (refPutEntryAny num kind xn xa xl xc ys _ (reads_kept HX.out hb) hx0 (by omega) (by omega)).mono ?_
  rintro e w6 ⟨wa, wc, rfl, hw, hbL⟩
  have hp := reads_kept hp hbL
  have hy := reads_kept hy hbL
  have hj := reads_kept hj hbL
  have hs := readsL_kept hs hbL
  have y0 := cell_kept y0 hbL
  have y1 := cell_kept y1 hbL
  have y2 := cell_kept y2 hbL
  have y3 := cell_kept y3 hbL
  have hb := below_trans hb hbL
  clear hbL
  clear b0 b1 b2 b3
  go_wp2_with fail
  refine (splitRr _ _ _ xs _ (reads_kept HB.out hb) (by omega)).mono ?_
  rintro e w7 ⟨ta, tcap, rfl, ht, hbL⟩
  rw [HS.out] at ht ⊢
  have hp := reads_kept hp hbL
  have hy := reads_kept hy hbL
  have hj := reads_kept hj hbL
  have hw := reads_kept hw hbL
  have hs := readsL_kept hs hbL
  have y0 := cell_kept y0 hbL
  have y1 := cell_kept y1 hbL
  have y2 := cell_kept y2 hbL
  have y3 := cell_kept y3 hbL
  have hb := below_trans hb hbL
  clear hbL
  go_wp2_with fail
  refine (awakeW _).mono ?_
  rintro e w8 ⟨rfl, hbL⟩
  have hp := reads_kept hp hbL
  have hy := reads_kept hy hbL
  have hj := reads_kept hj hbL
  have hw := reads_kept hw hbL
  have hs := readsL_kept hs hbL
  have ht := readsL_kept ht hbL
  have y0 := cell_kept y0 hbL
  have y1 := cell_kept y1 hbL
  have y2 := cell_kept y2 hbL
  have y3 := cell_kept y3 hbL
  have hb := below_trans hb hbL
  clear hbL
  go_wp2_with fail
  refine (sameYes _ _ _ _ _ _ _ _ hp hw).mono ?_
  rintro e u ⟨rfl, rfl⟩
  clear hp hw
  go_wp2_with fail
  refine (listYes _ _ _ _ _ _ _ _ hs ht).mono ?_
  rintro e w9 ⟨rfl, hbL⟩
  clear hs ht
  have hy := reads_kept hy hbL
  have hj := reads_kept hj hbL
  have y0 := cell_kept y0 hbL
  have y1 := cell_kept y1 hbL
  have y2 := cell_kept y2 hbL
  have y3 := cell_kept y3 hbL
  have hb := below_trans hb hbL
  clear hbL
  go_wp2_with fail
  have HY0 := hid y0
  have HY1 := hid y1
  have HY2 := hid y2
  have HY3 := hid y3
  have HYR := hid hy
  have HJR := hid hj
  have HBB := hid hb
  clear y0 y1 y2 y3 hy hj hb
  go_loopw [22, 23] (fun o r wr => ∃ (k : Nat) (acc : List Int), k ≤ ll ∧ r = .int .i64 k ∧ acc.length + bulk (es.drop k) ≤ bulk es ∧ wr.ownsRow w9.heap.size 5 1 o acc.length (acc.map (Value.int .u8)) ∧ Below w9.heap.size w9 wr ∧ Hid (J = jnF (es.drop k) acc)) (fun _ r _ => ll - (intOf r).toNat)
  case atStart => exact ⟨0, [], by omega, rfl, by simp, World.ownsRow_nil _ _ _ _, Below.refl _ _, by show _ = _; rw [← HJ.out]; rfl⟩
  case round =>
    obtain ⟨k, acc, hk, rfl, hacc, ho, hbw, HS2⟩ := hrel
    have hbt := below_trans HBB.out hbw
    by_cases hlt : k < ll
    · obtain ⟨x, hx⟩ : ∃ x, es[k]? = some x := ⟨_, List.getElem?_eq_getElem (by rw [HLL.out]; exact hlt)⟩
      have hd : es.drop k = x :: es.drop (k + 1) := by
        obtain ⟨hk', e⟩ := List.getElem?_eq_some_iff.1 hx
        rw [← e]; exact List.drop_eq_getElem_cons hk'
      have HD := hid hd
      rcases HL.out.cells with ⟨h, _⟩ | ⟨b, off, rfl, hc1⟩
      · omega
      obtain ⟨ea, el, ec, q0, q1, q2, q3, hr1, hn0, hn1⟩ := hc1 k x hx
      have p0 := cell_kept q0 hbt
      have p1 := cell_kept q1 hbt
      have p2 := cell_kept q2 hbt
      have p3 := cell_kept q3 hbt
      have hxl2 := hr1.length
      have hpe := pe_len (num := x.num) (kind := x.kind) (n := x.n) (ys := x.b)
      have hbk : acc.length + (20 + el + bulk (es.drop (k + 1))) ≤ bulk es := by
        rw [hd] at hacc; simp only [bulk] at hacc; omega
      have HXL := hid hxl2
      have HO2 := hid ho
      have HP := hid (refPutEntryAny x.num x.kind x.n ea el ec x.b wr (reads_kept hr1 hbt) hn0 hn1 (by omega))
      have HBW := hid hbw
      have hpe' : (pe x.num x.kind x.n x.b).length ≤ 20 + el := by omega
      clear hc1 q0 q1 q2 q3 hx hr1 hd hxl2 ho hacc hbw hpe
      cases he : (ef x.num x.kind x.n el != 0) with
      | true =>
        have he1 : J = ([], ef x.num x.kind x.n el) := by rw [HS2.out, HD.out, jnF_err (by rw [HXL.out]; exact he), HXL.out]
        subst he1
        have hll0 : ((ll : Int) == 0) = false := by simp; omega
        go_wp2_with fail
        refine HP.out.mono ?_
        rintro e wz ⟨oa, oc, rfl, hoq, hbL⟩
        have hbz := below_trans HBW.out hbL
        have hbtz := below_trans hbt hbL
        clear hoq hbL hbt
        have y0 := cell_kept HY0.out hbz
        have y1 := cell_kept HY1.out hbz
        have y2 := cell_kept HY2.out hbz
        have y3 := cell_kept HY3.out hbz
        have HSE := hid (sameEntW 0 0 0 [] none none 0 0 0 0 wz (reads_nil _) (reads_nil _))
        go_wp2_with fail
        refine HSE.out.mono ?_
        rintro e wa2 ⟨rfl, hbL⟩
        go_wp2
        go_ret
        exact ⟨by simp, below_trans hbtz hbL⟩
      | false =>
        have he0 : ef x.num x.kind x.n el = 0 := by simpa using he
        have epp : pp x.num x.kind x.n x.b = pe x.num x.kind x.n x.b := by rw [pp, HXL.out, if_pos he0]
        rw [epp, he0] at HP
        have hJ1 : J = jnF (es.drop (k + 1)) (acc ++ pe x.num x.kind x.n x.b) := by rw [HS2.out, HD.out, jnF_more (by rw [HXL.out]; exact he)]
        have HJ1 := hid hJ1
        have hbt1 := hid hbt
        clear he0 epp hJ1 he hbt
        have hae : acc.length + (pe x.num x.kind x.n x.b).length ≤ 140737488355328 := by omega
        by_cases hlast : k = ll - 1
        · have hdl : es.drop (k + 1) = [] := List.drop_eq_nil_of_le (by have := HLL.out; omega)
          have he1 : J = (acc ++ pe x.num x.kind x.n x.b, 0) := by rw [HJ1.out, hdl]; rfl
          have hJ2 : (J.2 != 0) = false := by rw [he1]; rfl
          have HJE := hid he1
          have hkb : ((k : Int) == (ll : Int) - 1) = true := by simp; omega
          clear hlast hdl he1
          go_wp2_with fail
          refine HP.out.mono ?_
          rintro e wz ⟨oa, oc, rfl, hoq, hbL⟩
          obtain ⟨v', w', r1, o1, g1⟩ := append_bytes w9.heap.size _ _ _ wz oa _ oc _ (own_kept HO2.out hbL) (by have := HBW.out.size; have := hbL.size; omega) hoq hae
          have R1 := hid r1
          have hbz : Below w9.heap.size w9 w' := (below_trans HBW.out hbL).trans (g1.below (by have := HBW.out.size; have := hbL.size; omega) (fun k hk => (HO2.out.lt k hk).1))
          have hown' : w'.ownsRow w9.heap.size 5 1 v' (acc ++ pe x.num x.kind x.n x.b).length ((acc ++ pe x.num x.kind x.n x.b).map (Value.int .u8)) := own_step o1 rfl
          obtain ⟨ra, rc, rfl, hrr⟩ := own_reads hown' (by have := HJG.out; rw [show jnF es [] = jn es from rfl, HJ.out, HJE.out] at this; exact this)
          have elen : (acc ++ pe x.num x.kind x.n x.b).length = acc.length + (pe x.num x.kind x.n x.b).length := List.length_append
          have hjr : Reads w' ja J.1.length jc (acc ++ pe x.num x.kind x.n x.b) := reads_eq (reads_kept HJR.out hbz) (by rw [HJE.out])
          rw [elen] at hrr
          have HSM := hid (sameYes _ _ _ _ _ _ _ _ hjr hrr)
          have HEL := hid elen
          have HOW := hid hown'
          have HBZ := hid hbz
          clear r1 o1 g1 hoq hbL hrr hjr hown' hbz elen
          go_wp2_with (first
            | (at_builtin; refine wpList_append_ran rfl (.tmp 109) (.tmp 110) 22 22 rfl rfl _ _ _ w' rfl rfl R1.out ?_)
            | fail)
          refine HSM.out.mono ?_
          rintro e u ⟨rfl, rfl⟩
          go_wp2
          exact ⟨⟨k + 1, acc ++ pe x.num x.kind x.n x.b, by omega, by go_num, by have := HEL.out; omega, by have := HOW.out; rw [HEL.out] at this; rw [HEL.out]; exact this, HBZ.out, HJ1.out⟩, by simp [intOf]; omega⟩
        · have hkb : ((k : Int) == (ll : Int) - 1) = false := by simp; omega
          clear hlast
          go_wp2_with fail
          refine HP.out.mono ?_
          rintro e wz ⟨oa, oc, rfl, hoq, hbL⟩
          obtain ⟨v', w', r1, o1, g1⟩ := append_bytes w9.heap.size _ _ _ wz oa _ oc _ (own_kept HO2.out hbL) (by have := HBW.out.size; have := hbL.size; omega) hoq hae
          have R1 := hid r1
          have hbz : Below w9.heap.size w9 w' := (below_trans HBW.out hbL).trans (g1.below (by have := HBW.out.size; have := hbL.size; omega) (fun k hk => (HO2.out.lt k hk).1))
          have hown' : w'.ownsRow w9.heap.size 5 1 v' (acc ++ pe x.num x.kind x.n x.b).length ((acc ++ pe x.num x.kind x.n x.b).map (Value.int .u8)) := own_step o1 rfl
          have elen : (acc ++ pe x.num x.kind x.n x.b).length = acc.length + (pe x.num x.kind x.n x.b).length := List.length_append
          have HEL := hid elen
          have HOW := hid hown'
          have HBZ := hid hbz
          clear r1 o1 g1 hoq hbL hown' hbz elen
          go_wp2_with (first
            | (at_builtin; refine wpList_append_ran rfl (.tmp 109) (.tmp 110) 22 22 rfl rfl _ _ _ w' rfl rfl R1.out ?_)
            | fail)
          exact ⟨⟨k + 1, acc ++ pe x.num x.kind x.n x.b, by omega, by go_num, by have := HEL.out; omega, HOW.out, HBZ.out, HJ1.out⟩, by simp [intOf]; omega⟩
    · obtain rfl : k = ll := by omega
      have hdl : es.drop k = [] := List.drop_eq_nil_of_le (by have := HLL.out; omega)
      have hJ0 : J = (acc, 0) := by rw [HS2.out, hdl]; rfl
      have hbz := hbw
      have hbtz := hbt
      by_cases hz0 : k = 0
      · subst hz0
        have he0 : acc = [] := by
          have h1 : es = [] := List.eq_nil_of_length_eq_zero HLL.out
          rw [h1] at hacc
          simp [bulk] at hacc
          exact hacc
        subst he0
        subst hJ0
        clear ho hdl hacc hbw hbt
        have y0 := cell_kept HY0.out hbz
        have y1 := cell_kept HY1.out hbz
        have y2 := cell_kept HY2.out hbz
        have y3 := cell_kept HY3.out hbz
        have HSE := hid (sameEntW 0 0 0 [] none none 0 0 0 0 wr (reads_nil _) (reads_nil _))
        go_wp2_with fail
        refine HSE.out.mono ?_
        rintro e wa2 ⟨rfl, hbL⟩
        go_wp2
        go_ret
        exact ⟨by simp, below_trans hbtz hbL⟩
      · have hll0 : ((k : Int) == 0) = false := by simp; omega
        clear ho hdl hacc hbw hbt hz0 hJ0
        have y0 := cell_kept HY0.out hbz
        have y1 := cell_kept HY1.out hbz
        have y2 := cell_kept HY2.out hbz
        have y3 := cell_kept HY3.out hbz
        have HSE := hid (sameEntW 0 0 0 [] none none 0 0 0 0 wr (reads_nil _) (reads_nil _))
        go_wp2_with fail
        refine HSE.out.mono ?_
        rintro e wa2 ⟨rfl, hbL⟩
        go_wp2
        go_ret
        exact ⟨by simp, below_trans hbtz hbL⟩

set_option maxRecDepth 100000 in
set_option maxHeartbeats 8000000 in
theorem entriesFar (num kind xn : Int) (xa la ba : Option Addr) (xl xc ll lc bl bc : Nat) (ys xs : List Int) (es : List Ent) (p : Int) (w : World) (hx0 : 0 ≤ xn) (hx1 : xn ≤ 18446744073709551615)
    (hx : Reads w xa xl xc ys) (hl : ReadsL w la ll lc es) (hbs : Reads w ba bl bc xs) (sx : xl ≤ 1048576) (sb : bl ≤ 1048576) (sl : ll ≤ 1048576) (hbulk : bulk es ≤ 20971520) (hp0 : 0 ≤ p) (hp1 : (bl : Int) < p) :
    Calls Try.prog 7 #[.agg #[.int .i64 num, .int .i64 kind, .int .u64 xn, .slice xa xl xc], .slice la ll lc, .slice ba bl bc, .int .i64 p] w fun e w' => e = .returned (.bool true) ∧ Below w.heap.size w w' := by
  have hq1 : decide (p < 0) = false := by simp; omega
  have hq2 : decide ((bl : Int) < p) = true := by simp; omega
  have HO := hid (show p < 0 ∨ (bl : Int) < p from .inr hp1)
  have b0 : (w.alloc (.cells #[.int .i64 num, .int .i64 kind, .int .u64 xn, .slice xa xl xc] 45)).cell? ⟨w.heap.size, 0, none⟩ = some (.int .i64 num) := by rw [World.cell?_alloc_at _ _ _ _ rfl]; rfl
  have b1 : (w.alloc (.cells #[.int .i64 num, .int .i64 kind, .int .u64 xn, .slice xa xl xc] 45)).cell? ⟨w.heap.size, 1, none⟩ = some (.int .i64 kind) := by rw [World.cell?_alloc_at _ _ _ _ rfl]; rfl
  have b2 : (w.alloc (.cells #[.int .i64 num, .int .i64 kind, .int .u64 xn, .slice xa xl xc] 45)).cell? ⟨w.heap.size, 2, none⟩ = some (.int .u64 xn) := by rw [World.cell?_alloc_at _ _ _ _ rfl]; rfl
  have b3 : (w.alloc (.cells #[.int .i64 num, .int .i64 kind, .int .u64 xn, .slice xa xl xc] 45)).cell? ⟨w.heap.size, 3, none⟩ = some (.slice xa xl xc) := by rw [World.cell?_alloc_at _ _ _ _ rfl]; rfl
  have hb : Below w.heap.size w (w.alloc (.cells #[.int .i64 num, .int .i64 kind, .int .u64 xn, .slice xa xl xc] 45)) := below_alloc _
  have hxl : xl ≤ 9223372036854775807 := by omega
  have hll : es.length = ll := hl.length
  have HLL := hid hll
  have HJG := hid (jnF_bd es [] (readsL_good hl) (by simp))
  have HX := hid hx
  have HL := hid hl
  have HB := hid hbs
  clear hx hl hbs hll
  go_enter Try.func7, Try.ntmps7
  go_wp2_with fail
  generalize w.alloc (.cells #[.int .i64 num, .int .i64 kind, .int .u64 xn, .slice xa xl xc] 45) = w0 at b0 b1 b2 b3 hb ⊢
  refine (putEntryAny num kind xn xa xl xc ys _ (reads_kept HX.out hb) hx0 (by omega) (by omega)).mono ?_
  rintro e w1 ⟨pa, pcap, rfl, hp, hbL⟩
  have b0 := cell_kept b0 hbL
  have b1 := cell_kept b1 hbL
  have b2 := cell_kept b2 hbL
  have b3 := cell_kept b3 hbL
  have hb := below_trans hb hbL
  clear hbL
  go_wp2_with fail
  refine (getEntryOut _ _ _ p _ (by omega) HO.out).mono ?_
  rintro e w2 ⟨rfl, hbL⟩
  have hy := reads_nil w2
  have hp := reads_kept hp hbL
  have b0 := cell_kept b0 hbL
  have b1 := cell_kept b1 hbL
  have b2 := cell_kept b2 hbL
  have b3 := cell_kept b3 hbL
  have hb := below_trans hb hbL
  clear hbL
  go_wp2_with fail
  have y0 : (w2.alloc (.cells #[.int .i64 0, .int .i64 0, .int .u64 0, .slice none 0 0] 45)).cell? ⟨w2.heap.size, 0, none⟩ = some (.int .i64 0) := by rw [World.cell?_alloc_at _ _ _ _ rfl]; rfl
  have y1 : (w2.alloc (.cells #[.int .i64 0, .int .i64 0, .int .u64 0, .slice none 0 0] 45)).cell? ⟨w2.heap.size, 1, none⟩ = some (.int .i64 0) := by rw [World.cell?_alloc_at _ _ _ _ rfl]; rfl
  have y2 : (w2.alloc (.cells #[.int .i64 0, .int .i64 0, .int .u64 0, .slice none 0 0] 45)).cell? ⟨w2.heap.size, 2, none⟩ = some (.int .u64 0) := by rw [World.cell?_alloc_at _ _ _ _ rfl]; rfl
  have y3 : (w2.alloc (.cells #[.int .i64 0, .int .i64 0, .int .u64 0, .slice none 0 0] 45)).cell? ⟨w2.heap.size, 3, none⟩ = some (.slice none 0 0) := by rw [World.cell?_alloc_at _ _ _ _ rfl]; rfl
  have hbL : Below w2.heap.size w2 (w2.alloc (.cells #[.int .i64 0, .int .i64 0, .int .u64 0, .slice none 0 0] 45)) := below_alloc _
  generalize w2.alloc (.cells #[.int .i64 0, .int .i64 0, .int .u64 0, .slice none 0 0] 45) = w3 at hbL y0 y1 y2 y3 ⊢
  have hp := reads_kept hp hbL
  have hy := reads_kept hy hbL
  have b0 := cell_kept b0 hbL
  have b1 := cell_kept b1 hbL
  have b2 := cell_kept b2 hbL
  have b3 := cell_kept b3 hbL
  have hb := below_trans hb hbL
  clear hbL
  refine (splitWr _ _ _ xs _ (reads_kept HB.out hb) (by omega)).mono ?_
  rintro e w4 ⟨sa, scap, rfl, hs, hbL⟩
  have hp := reads_kept hp hbL
  have hy := reads_kept hy hbL
  have y0 := cell_kept y0 hbL
  have y1 := cell_kept y1 hbL
  have y2 := cell_kept y2 hbL
  have y3 := cell_kept y3 hbL
  have b0 := cell_kept b0 hbL
  have b1 := cell_kept b1 hbL
  have b2 := cell_kept b2 hbL
  have b3 := cell_kept b3 hbL
  have hb := below_trans hb hbL
  clear hbL
  generalize hS : sp xs = S at hs ⊢
  have HS := hid hS
  clear hS
  go_wp2_with fail
  refine (joinWr _ _ _ es _ (readsL_kept HL.out hb) (by omega) HJG.out).mono ?_
  rintro e w5 ⟨ja, jc, rfl, hj, hbL⟩
  have hp := reads_kept hp hbL
  have hy := reads_kept hy hbL
  have hs := readsL_kept hs hbL
  have y0 := cell_kept y0 hbL
  have y1 := cell_kept y1 hbL
  have y2 := cell_kept y2 hbL
  have y3 := cell_kept y3 hbL
  have b0 := cell_kept b0 hbL
  have b1 := cell_kept b1 hbL
  have b2 := cell_kept b2 hbL
  have b3 := cell_kept b3 hbL
  have hb := below_trans hb hbL
  clear hbL
  generalize hJ : jn es = J at hj ⊢
  have HJ := hid hJ
  clear hJ
  go_wp2_with fail
  refine (refPutEntryAny num kind xn xa xl xc ys _ (reads_kept HX.out hb) hx0 (by omega) (by omega)).mono ?_
  rintro e w6 ⟨wa, wc, rfl, hw, hbL⟩
  have hp := reads_kept hp hbL
  have hy := reads_kept hy hbL
  have hj := reads_kept hj hbL
  have hs := readsL_kept hs hbL
  have y0 := cell_kept y0 hbL
  have y1 := cell_kept y1 hbL
  have y2 := cell_kept y2 hbL
  have y3 := cell_kept y3 hbL
  have hb := below_trans hb hbL
  clear hbL
  clear b0 b1 b2 b3
  go_wp2_with fail
  refine (splitRr _ _ _ xs _ (reads_kept HB.out hb) (by omega)).mono ?_
  rintro e w7 ⟨ta, tcap, rfl, ht, hbL⟩
  rw [HS.out] at ht ⊢
  have hp := reads_kept hp hbL
  have hy := reads_kept hy hbL
  have hj := reads_kept hj hbL
  have hw := reads_kept hw hbL
  have hs := readsL_kept hs hbL
  have y0 := cell_kept y0 hbL
  have y1 := cell_kept y1 hbL
  have y2 := cell_kept y2 hbL
  have y3 := cell_kept y3 hbL
  have hb := below_trans hb hbL
  clear hbL
  go_wp2_with fail
  refine (awakeW _).mono ?_
  rintro e w8 ⟨rfl, hbL⟩
  have hp := reads_kept hp hbL
  have hy := reads_kept hy hbL
  have hj := reads_kept hj hbL
  have hw := reads_kept hw hbL
  have hs := readsL_kept hs hbL
  have ht := readsL_kept ht hbL
  have y0 := cell_kept y0 hbL
  have y1 := cell_kept y1 hbL
  have y2 := cell_kept y2 hbL
  have y3 := cell_kept y3 hbL
  have hb := below_trans hb hbL
  clear hbL
  go_wp2_with fail
  refine (sameYes _ _ _ _ _ _ _ _ hp hw).mono ?_
  rintro e u ⟨rfl, rfl⟩
  clear hp hw
  go_wp2_with fail
  refine (listYes _ _ _ _ _ _ _ _ hs ht).mono ?_
  rintro e w9 ⟨rfl, hbL⟩
  clear hs ht
  have hy := reads_kept hy hbL
  have hj := reads_kept hj hbL
  have y0 := cell_kept y0 hbL
  have y1 := cell_kept y1 hbL
  have y2 := cell_kept y2 hbL
  have y3 := cell_kept y3 hbL
  have hb := below_trans hb hbL
  clear hbL
  go_wp2_with fail
  have HY0 := hid y0
  have HY1 := hid y1
  have HY2 := hid y2
  have HY3 := hid y3
  have HYR := hid hy
  have HJR := hid hj
  have HBB := hid hb
  clear y0 y1 y2 y3 hy hj hb
  go_loopw [22, 23] (fun o r wr => ∃ (k : Nat) (acc : List Int), k ≤ ll ∧ r = .int .i64 k ∧ acc.length + bulk (es.drop k) ≤ bulk es ∧ wr.ownsRow w9.heap.size 5 1 o acc.length (acc.map (Value.int .u8)) ∧ Below w9.heap.size w9 wr ∧ Hid (J = jnF (es.drop k) acc)) (fun _ r _ => ll - (intOf r).toNat)
  case atStart => exact ⟨0, [], by omega, rfl, by simp, World.ownsRow_nil _ _ _ _, Below.refl _ _, by show _ = _; rw [← HJ.out]; rfl⟩
  case round =>
    obtain ⟨k, acc, hk, rfl, hacc, ho, hbw, HS2⟩ := hrel
    have hbt := below_trans HBB.out hbw
    by_cases hlt : k < ll
    · obtain ⟨x, hx⟩ : ∃ x, es[k]? = some x := ⟨_, List.getElem?_eq_getElem (by rw [HLL.out]; exact hlt)⟩
      have hd : es.drop k = x :: es.drop (k + 1) := by
        obtain ⟨hk', e⟩ := List.getElem?_eq_some_iff.1 hx
        rw [← e]; exact List.drop_eq_getElem_cons hk'
      have HD := hid hd
      rcases HL.out.cells with ⟨h, _⟩ | ⟨b, off, rfl, hc1⟩
      · omega
      obtain ⟨ea, el, ec, q0, q1, q2, q3, hr1, hn0, hn1⟩ := hc1 k x hx
      have p0 := cell_kept q0 hbt
      have p1 := cell_kept q1 hbt
      have p2 := cell_kept q2 hbt
      have p3 := cell_kept q3 hbt
      have hxl2 := hr1.length
      have hpe := pe_len (num := x.num) (kind := x.kind) (n := x.n) (ys := x.b)
      have hbk : acc.length + (20 + el + bulk (es.drop (k + 1))) ≤ bulk es := by
        rw [hd] at hacc; simp only [bulk] at hacc; omega
      have HXL := hid hxl2
      have HO2 := hid ho
      have HP := hid (refPutEntryAny x.num x.kind x.n ea el ec x.b wr (reads_kept hr1 hbt) hn0 hn1 (by omega))
      have HBW := hid hbw
      have hpe' : (pe x.num x.kind x.n x.b).length ≤ 20 + el := by omega
      clear hc1 q0 q1 q2 q3 hx hr1 hd hxl2 ho hacc hbw hpe
      cases he : (ef x.num x.kind x.n el != 0) with
      | true =>
        have he1 : J = ([], ef x.num x.kind x.n el) := by rw [HS2.out, HD.out, jnF_err (by rw [HXL.out]; exact he), HXL.out]
        subst he1
        have hll0 : ((ll : Int) == 0) = false := by simp; omega
        go_wp2_with fail
        refine HP.out.mono ?_
        rintro e wz ⟨oa, oc, rfl, hoq, hbL⟩
        have hbz := below_trans HBW.out hbL
        have hbtz := below_trans hbt hbL
        clear hoq hbL hbt
        have y0 := cell_kept HY0.out hbz
        have y1 := cell_kept HY1.out hbz
        have y2 := cell_kept HY2.out hbz
        have y3 := cell_kept HY3.out hbz
        have HSE := hid (sameEntW 0 0 0 [] none none 0 0 0 0 wz (reads_nil _) (reads_nil _))
        go_wp2_with fail
        refine HSE.out.mono ?_
        rintro e wa2 ⟨rfl, hbL⟩
        go_wp2
        go_ret
        exact ⟨by simp, below_trans hbtz hbL⟩
      | false =>
        have he0 : ef x.num x.kind x.n el = 0 := by simpa using he
        have epp : pp x.num x.kind x.n x.b = pe x.num x.kind x.n x.b := by rw [pp, HXL.out, if_pos he0]
        rw [epp, he0] at HP
        have hJ1 : J = jnF (es.drop (k + 1)) (acc ++ pe x.num x.kind x.n x.b) := by rw [HS2.out, HD.out, jnF_more (by rw [HXL.out]; exact he)]
        have HJ1 := hid hJ1
        have hbt1 := hid hbt
        clear he0 epp hJ1 he hbt
        have hae : acc.length + (pe x.num x.kind x.n x.b).length ≤ 140737488355328 := by omega
        by_cases hlast : k = ll - 1
        · have hdl : es.drop (k + 1) = [] := List.drop_eq_nil_of_le (by have := HLL.out; omega)
          have he1 : J = (acc ++ pe x.num x.kind x.n x.b, 0) := by rw [HJ1.out, hdl]; rfl
          have hJ2 : (J.2 != 0) = false := by rw [he1]; rfl
          have HJE := hid he1
          have hkb : ((k : Int) == (ll : Int) - 1) = true := by simp; omega
          clear hlast hdl he1
          go_wp2_with fail
          refine HP.out.mono ?_
          rintro e wz ⟨oa, oc, rfl, hoq, hbL⟩
          obtain ⟨v', w', r1, o1, g1⟩ := append_bytes w9.heap.size _ _ _ wz oa _ oc _ (own_kept HO2.out hbL) (by have := HBW.out.size; have := hbL.size; omega) hoq hae
          have R1 := hid r1
          have hbz : Below w9.heap.size w9 w' := (below_trans HBW.out hbL).trans (g1.below (by have := HBW.out.size; have := hbL.size; omega) (fun k hk => (HO2.out.lt k hk).1))
          have hown' : w'.ownsRow w9.heap.size 5 1 v' (acc ++ pe x.num x.kind x.n x.b).length ((acc ++ pe x.num x.kind x.n x.b).map (Value.int .u8)) := own_step o1 rfl
          obtain ⟨ra, rc, rfl, hrr⟩ := own_reads hown' (by have := HJG.out; rw [show jnF es [] = jn es from rfl, HJ.out, HJE.out] at this; exact this)
          have elen : (acc ++ pe x.num x.kind x.n x.b).length = acc.length + (pe x.num x.kind x.n x.b).length := List.length_append
          have hjr : Reads w' ja J.1.length jc (acc ++ pe x.num x.kind x.n x.b) := reads_eq (reads_kept HJR.out hbz) (by rw [HJE.out])
          rw [elen] at hrr
          have HSM := hid (sameYes _ _ _ _ _ _ _ _ hjr hrr)
          have HEL := hid elen
          have HOW := hid hown'
          have HBZ := hid hbz
          clear r1 o1 g1 hoq hbL hrr hjr hown' hbz elen
          go_wp2_with (first
            | (at_builtin; refine wpList_append_ran rfl (.tmp 109) (.tmp 110) 22 22 rfl rfl _ _ _ w' rfl rfl R1.out ?_)
            | fail)
          refine HSM.out.mono ?_
          rintro e u ⟨rfl, rfl⟩
          go_wp2
          exact ⟨⟨k + 1, acc ++ pe x.num x.kind x.n x.b, by omega, by go_num, by have := HEL.out; omega, by have := HOW.out; rw [HEL.out] at this; rw [HEL.out]; exact this, HBZ.out, HJ1.out⟩, by simp [intOf]; omega⟩
        · have hkb : ((k : Int) == (ll : Int) - 1) = false := by simp; omega
          clear hlast
          go_wp2_with fail
          refine HP.out.mono ?_
          rintro e wz ⟨oa, oc, rfl, hoq, hbL⟩
          obtain ⟨v', w', r1, o1, g1⟩ := append_bytes w9.heap.size _ _ _ wz oa _ oc _ (own_kept HO2.out hbL) (by have := HBW.out.size; have := hbL.size; omega) hoq hae
          have R1 := hid r1
          have hbz : Below w9.heap.size w9 w' := (below_trans HBW.out hbL).trans (g1.below (by have := HBW.out.size; have := hbL.size; omega) (fun k hk => (HO2.out.lt k hk).1))
          have hown' : w'.ownsRow w9.heap.size 5 1 v' (acc ++ pe x.num x.kind x.n x.b).length ((acc ++ pe x.num x.kind x.n x.b).map (Value.int .u8)) := own_step o1 rfl
          have elen : (acc ++ pe x.num x.kind x.n x.b).length = acc.length + (pe x.num x.kind x.n x.b).length := List.length_append
          have HEL := hid elen
          have HOW := hid hown'
          have HBZ := hid hbz
          clear r1 o1 g1 hoq hbL hown' hbz elen
          go_wp2_with (first
            | (at_builtin; refine wpList_append_ran rfl (.tmp 109) (.tmp 110) 22 22 rfl rfl _ _ _ w' rfl rfl R1.out ?_)
            | fail)
          exact ⟨⟨k + 1, acc ++ pe x.num x.kind x.n x.b, by omega, by go_num, by have := HEL.out; omega, HOW.out, HBZ.out, HJ1.out⟩, by simp [intOf]; omega⟩
    · obtain rfl : k = ll := by omega
      have hdl : es.drop k = [] := List.drop_eq_nil_of_le (by have := HLL.out; omega)
      have hJ0 : J = (acc, 0) := by rw [HS2.out, hdl]; rfl
      have hbz := hbw
      have hbtz := hbt
      by_cases hz0 : k = 0
      · subst hz0
        have he0 : acc = [] := by
          have h1 : es = [] := List.eq_nil_of_length_eq_zero HLL.out
          rw [h1] at hacc
          simp [bulk] at hacc
          exact hacc
        subst he0
        subst hJ0
        clear ho hdl hacc hbw hbt
        have y0 := cell_kept HY0.out hbz
        have y1 := cell_kept HY1.out hbz
        have y2 := cell_kept HY2.out hbz
        have y3 := cell_kept HY3.out hbz
        have HSE := hid (sameEntW 0 0 0 [] none none 0 0 0 0 wr (reads_nil _) (reads_nil _))
        go_wp2_with fail
        refine HSE.out.mono ?_
        rintro e wa2 ⟨rfl, hbL⟩
        go_wp2
        go_ret
        exact ⟨by simp, below_trans hbtz hbL⟩
      · have hll0 : ((k : Int) == 0) = false := by simp; omega
        clear ho hdl hacc hbw hbt hz0 hJ0
        have y0 := cell_kept HY0.out hbz
        have y1 := cell_kept HY1.out hbz
        have y2 := cell_kept HY2.out hbz
        have y3 := cell_kept HY3.out hbz
        have HSE := hid (sameEntW 0 0 0 [] none none 0 0 0 0 wr (reads_nil _) (reads_nil _))
        go_wp2_with fail
        refine HSE.out.mono ?_
        rintro e wa2 ⟨rfl, hbL⟩
        go_wp2
        go_ret
        exact ⟨by simp, below_trans hbtz hbL⟩

theorem entriesW (num kind xn : Int) (xa la ba : Option Addr) (xl xc ll lc bl bc : Nat) (ys xs : List Int) (es : List Ent) (p : Int) (w : World) (hx0 : 0 ≤ xn) (hx1 : xn ≤ 18446744073709551615)
    (hx : Reads w xa xl xc ys) (hl : ReadsL w la ll lc es) (hbs : Reads w ba bl bc xs) (sx : xl ≤ 1048576) (sb : bl ≤ 1048576) (sl : ll ≤ 1048576) (hbulk : bulk es ≤ 20971520) :
    Calls Try.prog 7 #[.agg #[.int .i64 num, .int .i64 kind, .int .u64 xn, .slice xa xl xc], .slice la ll lc, .slice ba bl bc, .int .i64 p] w fun e w' => e = .returned (.bool true) ∧ Below w.heap.size w w' := by
  by_cases h0 : p < 0
  · exact entriesNeg num kind xn xa la ba xl xc ll lc bl bc ys xs es p w hx0 hx1 hx hl hbs sx sb sl hbulk h0
  · by_cases h1 : (bl : Int) < p
    · exact entriesFar num kind xn xa la ba xl xc ll lc bl bc ys xs es p w hx0 hx1 hx hl hbs sx sb sl hbulk (by omega) h1
    · obtain ⟨q, rfl⟩ := Int.eq_ofNat_of_zero_le (show 0 ≤ p by omega)
      exact entriesIn num kind xn xa la ba xl xc ll lc bl bc ys xs es q w hx0 hx1 hx hl hbs sx sb sl hbulk (by omega)
end Go.Proofs.Ytaedbgdjjnkloaa
