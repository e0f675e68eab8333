/-
  opt: a program of an empty block is none; Count.
  opt: Program.
  opt: chapter 14's examples: the program of two.
  opt: chapter 14's examples: the calls, each as a contract of its own.
  opt: chapter 14's examples.
-/
import Derived.Test.YtliohglpbmpbhaaCKY
import Derived.Deep.RegionLaw
namespace Go.Proofs.Ytliohglpbmpbhaa
open Go.RowKit
set_option maxRecDepth 1000000
set_option linter.unusedVariables false
set_option linter.unusedSimpArgs false
set_option maxHeartbeats 3000000
theorem symNil (w : World) : Calls Try.prog 51 #[.slice none 0 0] w fun e w' => e = .returned (.bool false) ∧ Below w.heap.size w w' := by
  go_enter Try.func51, Try.ntmps51
  go_wp2
  go_ret
  exact ⟨rfl, Below.refl _ _⟩
theorem validNil (w : World) (ba : Option Addr) (n bc : Nat) : Calls Try.prog 32 #[.slice ba n bc, .agg #[.slice none 0 0, .slice none 0 0, .slice none 0 0]] w fun e w' => e = .returned (.bool false) ∧ Below w.heap.size w w' := by
  have HR := hid fun W => doRiseP W [] none 0 (rowS_nil _ _ _) (by decide) (fun i j h hj hi => absurd hj (Nat.not_lt_zero _))
  have HH := hid fun W => hasStepsT W none none none 0 0 0 0 0 0 (by decide) (by decide)
  have HS := hid fun W => symNil W
  simp only [List.length_nil] at HR
  go_enter Try.func32, Try.ntmps32
  go_wp2_with fail
  refine (HR.out _).mono ?_
  rintro e u ⟨rfl, hb⟩
  have B0 : Hid (Blk u w.heap.size 25 #[.slice none 0 0, .slice none 0 0, .slice none 0 0]) := hid ((Blk.new _ _ _).kept hb)
  have HB := hid (below_trans (below_alloc _) hb)
  have x0 := B0.out.cellF
  have z0 := B0.out.lt
  clear hb
  go_wp2_with fail
  refine (HH.out _).mono ?_
  rintro e u2 ⟨rfl, hb⟩
  replace B0 := hid (B0.out.kept hb)
  replace HB := hid (below_trans HB.out hb)
  clear hb x0 z0
  have x0 := B0.out.cellF
  have z0 := B0.out.lt
  go_wp2_with fail
  refine (HS.out _).mono ?_
  rintro e u3 ⟨rfl, hb⟩
  replace HB := hid (below_trans HB.out hb)
  clear hb x0 z0
  go_wp2
  go_ret
  exact ⟨rfl, HB.out⟩
theorem valid1Nil (w : World) (ba : Option Addr) (n bc p : Nat) (hB : Blk w p 61 #[.slice ba n bc]) : Calls Try.prog 31 #[.agg #[.slice none 0 0, .slice none 0 0, .slice none 0 0], .pointer (some ⟨p, 0, none⟩)] w fun e w' => e = .returned (.bool true) ∧ Below w.heap.size w w' := by
  have HV := hid fun W => validNil W ba n bc
  have x0 := hB.cellF
  have z0 := hB.lt
  clear hB
  go_enter Try.func31, Try.ntmps31
  go_wp2_with fail
  refine (HV.out _).mono ?_
  rintro e u ⟨rfl, hb⟩
  have HB := hid (below_trans (below_alloc _) hb)
  clear hb x0 z0
  go_wp2
  go_ret
  exact ⟨rfl, HB.out⟩
theorem idxNil (w : World) (g p : Nat) (hg : Blk w g 25 #[.slice none 0 0, .slice none 0 0, .slice none 0 0]) (hB : Blk w p 61 #[.slice (some ⟨g, 0, none⟩) 1 1]) : Calls Try.prog 48 #[.slice (some ⟨g, 0, none⟩) 1 1, .func (.func 31) #[] #[.pointer (some ⟨p, 0, none⟩)]] w fun e w' => e = .returned (.int .i64 0) ∧ Below w.heap.size w w' := by
  have HV := hid (valid1Nil w (some ⟨g, 0, none⟩) 1 1 p hB)
  have x0 := hg.cellF
  have z0 := hg.lt
  clear hg hB
  have hcf := cfValid
  go_enter Try.func48, Try.ntmps48
  go_wp2
  go_loopw [8] (fun r wr => r = .int .i64 0 ∧ wr = w) (fun _ _ => 0)
  case atStart => exact ⟨rfl, rfl⟩
  case round =>
    obtain ⟨rfl, rfl⟩ := hrel
    go_wp2_with fail
    refine HV.out.mono ?_
    rintro e u ⟨rfl, hb⟩
    have HB := hid hb
    clear hb x0 z0
    go_wp2
    go_ret
    exact ⟨rfl, HB.out⟩
theorem notValid (w : World) (g : Nat) (hg : Blk w g 25 #[.slice none 0 0, .slice none 0 0, .slice none 0 0]) : Calls Try.prog 17 #[.agg #[.slice (some ⟨g, 0, none⟩) 1 1]] w fun e w' => e = .returned (.bool false) ∧ Below w.heap.size w w' := by
  have HC : Hid (∀ W p, Below w.heap.size w W → Blk W p 61 #[.slice (some ⟨g, 0, none⟩) 1 1] → Calls Try.prog 30 #[.slice (some ⟨g, 0, none⟩) 1 1, .func (.func 31) #[] #[.pointer (some ⟨p, 0, none⟩)]] W fun e w' => e = .returned (.bool true) ∧ Below W.heap.size W w') := hid fun W p hW hB => by
    have HI := hid (idxNil W g p (hg.kept hW) hB)
    clear hB hW
    go_enter Try.func30, Try.ntmps30
    go_wp2_with fail
    refine HI.out.mono ?_
    rintro e u ⟨rfl, hb⟩
    go_wp2
    go_ret
    exact ⟨rfl, hb⟩
  clear hg
  go_enter Try.func17, Try.ntmps17
  go_wp2_with fail
  refine (HC.out _ _ (by exact blBy) (Blk.newAt (by simp))).mono ?_
  rintro e u ⟨rfl, hb⟩
  have HB : Hid (Below w.heap.size w u) := hid (bl_then (by exact blBy) hb)
  clear hb
  go_wp2
  go_ret
  exact ⟨rfl, HB.out⟩
theorem progNil (w : World) (g : Nat) (hg : Blk w g 25 #[.slice none 0 0, .slice none 0 0, .slice none 0 0]) : Calls Try.prog 7 #[.agg #[.slice (some ⟨g, 0, none⟩) 1 1]] w fun e w' => e = .returned (.tuple #[.agg #[.slice none 0 0], .int .i64 19]) ∧ Below w.heap.size w w' := by
  have HV := hid fun W (hW : Below w.heap.size w W) => notValid W g (hg.kept hW)
  clear hg
  go_enter Try.func7, Try.ntmps7
  go_wp2_with fail
  refine (HV.out _ (by exact blBy)).mono ?_
  rintro e u ⟨rfl, hb⟩
  have HB : Hid (Below w.heap.size w u) := hid (bl_then (by exact blBy) hb)
  have B2 : Hid (Blk u (w.heap.size + 1) 31 #[.slice none 0 0]) := hid ((Blk.newAt (by simp)).kept hb)
  have x2 := B2.out.cellF
  have y2 := B2.out.frz
  have z2 := B2.out.lt
  clear hb
  go_wp2
  refine bodyPost_ret (v := .tuple #[.agg #[.slice none 0 0], .int .i64 19]) (by simp [results, Try.results7, go_sem, x2, y2, z2]) rfl ⟨rfl, ?_⟩
  exact Below.setCell HB.out (by show w.heap.size ≤ w.heap.size + 1; omega) _
def cntK (ks : List BK) : Nat := (ks.map (fun k => k.dec.length + k.enc.length + k.rows.length)).sum
theorem cntK_snoc (ks : List BK) (k : BK) : cntK (ks ++ [k]) = cntK ks + (k.dec.length + k.enc.length + k.rows.length) := by unfold cntK; simp
theorem countT (w : World) (bs : List BV) (ba : Option Addr) (bc : Nat) (hp : PgR w (.slice ba bs.length bc) bs) (hn : bs.length ≤ 100000) (hs : ∀ x ∈ bs, bkSm x.k) : Calls Try.prog 16 #[.agg #[.slice ba bs.length bc]] w fun e w' => e = .returned (.int .i64 (cntK (bs.map BV.k) : Int)) ∧ Below w.heap.size w w' := by
  have HP := hid hp
  have HS := hid hs
  have n1 : (bs.length : Int) ≤ 100000 := by omega
  clear hp hs
  go_enter Try.func16, Try.ntmps16
  go_wp2_with fail
  go_loopw [3, 9] (fun s r wr => ∃ j : Nat, s = .int .i64 (cntK ((bs.take j).map BV.k) : Int) ∧ r = .int .i64 j ∧ j ≤ bs.length ∧ Hid (cntK ((bs.take j).map BV.k) ≤ j * 3145728) ∧ Hid (Below w.heap.size w wr)) (fun _ r _ => bs.length - (intOf r).toNat)
  case atStart => exact ⟨0, rfl, rfl, by omega, hid (by simp [cntK]), hid (by exact blBy)⟩
  case round =>
    obtain ⟨j, rfl, rfl, hj, HLE, hb⟩ := hrel
    by_cases hlt : j < bs.length
    · have h2 : (j : Int) < (bs.length : Int) := by omega
      obtain ⟨pb, po, da, dc, ea, ec, ra, rc, epb, hpb, c0, c1, c2, hbk⟩ := pg_at (HP.out.kept hb.out) hlt
      have hsx := HS.out _ (List.getElem_mem hlt)
      have HT : Hid (cntK ((bs.take (j + 1)).map BV.k) = cntK ((bs.take j).map BV.k) + (bs[j].k.dec.length + bs[j].k.enc.length + bs[j].k.rows.length)) := hid (by rw [List.take_succ_eq_append_getElem hlt, List.map_append]; exact cntK_snoc _ _)
      subst epb
      clear hbk
      unfold bkSm at hsx
      generalize bs[j] = x at *
      have hle := HLE.out
      obtain ⟨N, hN⟩ : ∃ N, N = cntK ((bs.take j).map BV.k) := ⟨_, rfl⟩
      rw [← hN] at hle HT ⊢
      have hw1 : IntKind.i64.wrap ((x.k.dec.length : Int) + (x.k.enc.length : Int)) = (x.k.dec.length : Int) + (x.k.enc.length : Int) := by rw [IntKind.wrap_i64]; omega
      have hw2 : IntKind.i64.wrap ((x.k.dec.length : Int) + (x.k.enc.length : Int) + (x.k.rows.length : Int)) = (x.k.dec.length : Int) + (x.k.enc.length : Int) + (x.k.rows.length : Int) := by rw [IntKind.wrap_i64]; omega
      have hw3 : IntKind.i64.wrap ((N : Int) + ((x.k.dec.length : Int) + (x.k.enc.length : Int) + (x.k.rows.length : Int))) = (N : Int) + ((x.k.dec.length : Int) + (x.k.enc.length : Int) + (x.k.rows.length : Int)) := by rw [IntKind.wrap_i64]; omega
      have HLE2 : Hid (N + (x.k.dec.length + x.k.enc.length + x.k.rows.length) ≤ (j + 1) * 3145728) := hid (by omega)
      clear hN hle hsx HLE
      go_wp2
      exact ⟨⟨j + 1, by rw [HT.out]; push_cast; rfl, by simp, by omega, by rw [HT.out]; exact HLE2, hid (below_trans hb.out (below_alloc _))⟩, by simp [intOf]; omega⟩
    · have h2 : ¬ (j : Int) < (bs.length : Int) := by omega
      have ej : bs.take j = bs := List.take_of_length_le (by omega)
      rw [ej]
      go_wp2
      go_ret
      exact ⟨rfl, hb.out⟩
set_option maxHeartbeats 4000000
theorem own_othQ {w : World} {base e size n q j : Nat} {v u : Value} {fl : List Value} (h : w.ownsRow base e size v n fl) {t : TypeId} {cs : Array Value} (hq : Blk w q t cs) (ht : t ≠ e) : (w.setCell ⟨q, j, none⟩ u).ownsRow base e size v n fl :=
  own_keep (f := (· ≠ q)) h (fun k hk e => by
    obtain ⟨_, _, cur, h3⟩ := own_type h hk
    rw [e, show w.heap[q]? = _ from hq] at h3
    cases h3
    exact ht rfl) (Keep.setCell _ _ _ (fun h => h rfl))
def ProgP (w : World) (ks : List BK) (er : Int) (e : Ending) (w' : World) : Prop := ∃ a c xs, e = .returned (.tuple #[.agg #[.slice a xs.length c], .int .i64 er]) ∧ xs.map BV.k = ks ∧ LwO w' w.heap.size (.slice a xs.length c) xs ∧ Below w.heap.size w w'
theorem grow_blkP {w w' : World} {base e size n : Nat} {v v' : Value} {fl : List Value} (g : Grow w w' v v') (h : w.ownsRow base e size v n fl) {q : Nat} {t : TypeId} {cs : Array Value} (hB : Blk w q t cs) (ht : t ≠ e) : Blk w' q t cs := (g.block q hB.lt (fun he => by
  obtain ⟨_, _, cur, h3⟩ := own_type h he
  rw [show w.heap[q]? = _ from hB] at h3
  cases h3
  exact ht rfl)).trans hB
theorem programT (w : World) (bs : List BV) (ba : Option Addr) (bc : Nat) (hp : PgR w (.slice ba bs.length bc) bs) (hn : bs.length ≤ 128) (hv : ∀ x ∈ bs, VB bs x.k) (hs : ∀ x ∈ bs, bkSm x.k) (hI : ∀ x ∈ bs, kI x.k) (hok : ∀ x ∈ bs, tbC x.k → RiseT (chA x.k.dec).1 ∧ (chA x.k.dec).1.length < 20) : Calls Try.prog 7 #[.agg #[.slice ba bs.length bc]] w (ProgP w (bs.map (fun x => boB x.k)) 0) := by
  have HV := hid fun W (hW : Below w.heap.size w W) => validT W bs ba bc (hp.kept hW) hn hv
  have HP := hid hp
  have HBO : Hid (∀ j (hj : j < bs.length) W da ea ra dc ec rc, BkR W bs[j].k (.slice da bs[j].k.dec.length dc) (.slice ea bs[j].k.enc.length ec) (.slice ra bs[j].k.rows.length rc) → Calls Try.prog 15 #[.agg #[.slice da bs[j].k.dec.length dc, .slice ea bs[j].k.enc.length ec, .slice ra bs[j].k.rows.length rc]] W (BlkA W (boB bs[j].k))) := hid fun j hj W da ea ra dc ec rc h => blockT W _ da ea ra dc ec rc h (hs _ (List.getElem_mem hj)) (hI _ (List.getElem_mem hj)) (hok _ (List.getElem_mem hj))
  have n1 : (bs.length : Int) ≤ 128 := by omega
  clear hp hv hs hI hok
  go_enter Try.func7, Try.ntmps7
  go_wp2_with fail
  refine (HV.out _ (by exact blBy)).mono ?_
  rintro e w1 ⟨rfl, hb1⟩
  have Ba : Blk w1 w.heap.size 31 #[.slice ba bs.length bc] := ((Blk.new _ _ _).kept (below_alloc _)).kept hb1
  have Br : Blk w1 (w.heap.size + 1) 31 #[.slice none 0 0] := (Blk.newAt (by simp)).kept hb1
  replace hb1 : Hid (Below w.heap.size w w1) := hid (bl_then (by exact blBy) hb1)
  have xa := Ba.cellF
  have za := Ba.lt
  go_wp2_with fail
  have HBW : Hid (Below w.heap.size w (w1.alloc (.cells #[.slice none 0 0] 31))) := hid (by have := hb1.out; exact blBy)
  have HBP : Hid (Blk (w1.alloc (.cells #[.slice none 0 0] 31)) w1.heap.size 31 #[.slice none 0 0]) := hid (Blk.new _ _ _)
  have HBR : Hid (Blk (w1.alloc (.cells #[.slice none 0 0] 31)) (w.heap.size + 1) 31 #[.slice none 0 0]) := hid (Br.kept (below_alloc _))
  have hqq : w.heap.size + 1 < w1.heap.size := Br.lt
  clear xa za Ba Br
  generalize w1.alloc (.cells #[.slice none 0 0] 31) = V at *
  generalize w1.heap.size = q at *
  go_loopw [14] (fun r wr => ∃ (j : Nat) (a : Option Addr) (c : Nat) (xs : List BV), r = .int .i64 j ∧ j ≤ bs.length ∧ Hid (xs.length = j) ∧ Hid (xs.map BV.k = (bs.take j).map (fun x => boB x.k)) ∧ Hid (LwO wr (w.heap.size + 2) (.slice a j c) xs) ∧ Hid (Blk wr q 31 #[.slice a j c]) ∧ Hid (Blk wr (w.heap.size + 1) 31 #[.slice none 0 0]) ∧ Hid (Below w.heap.size w wr)) (fun r wr => bs.length - numAt wr r)
  case atStart => exact ⟨0, none, 0, [], rfl, by omega, hid rfl, hid rfl, hid ⟨World.ownsRow_nil _ _ _ _, by simp⟩, HBP, HBR, HBW⟩
  case round =>
    clear HBP HBR HBW
    obtain ⟨j, a, c, xs, rfl, hj, hxl, hmap, HLW, HBP, HBR, hb⟩ := hrel
    by_cases hlt : j < bs.length
    · have h3 : (j : Int) < (bs.length : Int) := by omega
      obtain ⟨tb, tof, da, dc, ea, ec, ra, rc, etb, hbl, c0, c1, c2, hbk⟩ := pg_at (HP.out.kept hb.out) hlt
      subst etb
      have HBJ := hid (HBO.out j hlt)
      have HTK : Hid ((bs.take (j + 1)).map (fun x => boB x.k) = (bs.take j).map (fun x => boB x.k) ++ [boB bs[j].k]) := hid (by rw [List.take_succ_eq_append_getElem hlt, List.map_append]; rfl)
      have HBK := hid hbk
      generalize bs[j] = x at *
      obtain ⟨K, dv, ev, rv⟩ := x
      dsimp only at c0 c1 c2 HBJ HTK HBK
      clear hbk
      have HBX : Hid (Blk (wr.alloc (.cells #[.slice da K.dec.length dc, .slice ea K.enc.length ec, .slice ra K.rows.length rc] 25)) wr.heap.size 25 #[.slice da K.dec.length dc, .slice ea K.enc.length ec, .slice ra K.rows.length rc]) := hid (Blk.new _ _ _)
      have HP1 : Hid (Blk (wr.alloc (.cells #[.slice da K.dec.length dc, .slice ea K.enc.length ec, .slice ra K.rows.length rc] 25)) q 31 #[.slice a j c]) := hid (HBP.out.kept (below_alloc _))
      have HR1 : Hid (Blk (wr.alloc (.cells #[.slice da K.dec.length dc, .slice ea K.enc.length ec, .slice ra K.rows.length rc] 25)) (w.heap.size + 1) 31 #[.slice none 0 0]) := hid (HBR.out.kept (below_alloc _))
      have HB1 : Hid (Below w.heap.size w (wr.alloc (.cells #[.slice da K.dec.length dc, .slice ea K.enc.length ec, .slice ra K.rows.length rc] 25))) := hid (bl_alloc hb.out _)
      have HL1 : Hid (LwO (wr.alloc (.cells #[.slice da K.dec.length dc, .slice ea K.enc.length ec, .slice ra K.rows.length rc] 25)) (w.heap.size + 2) (.slice a j c) xs) := hid (HLW.out.kept (below_alloc _))
      replace HBK := hid (HBK.out.kept (below_alloc (.cells #[.slice da K.dec.length dc, .slice ea K.enc.length ec, .slice ra K.rows.length rc] 25)))
      go_upto_region 7 with fail
      clear c0 c1 c2 HBP HBR hb HLW
      generalize wr.alloc (.cells #[.slice da K.dec.length dc, .slice ea K.enc.length ec, .slice ra K.rows.length rc] 25) = U at *
      generalize wr.heap.size = qx at *
      have HAP : Hid (∀ W, Below U.heap.size U W → ∀ da dc ea ec ra' rc', BkO W U.heap.size (boB K) (.slice da (boB K).dec.length dc) (.slice ea (boB K).enc.length ec) (.slice ra' (boB K).rows.length rc') → ∃ a2 c2 w', Hid ((Builtin.append_ #[29, 29] 29 #[.slice a j c, .slice (some ⟨W.heap.size, 0, none⟩) 1 1]).run Try.prog (W.alloc (.cells #[.slice da (boB K).dec.length dc, .slice ea (boB K).enc.length ec, .slice ra' (boB K).rows.length rc'] 25)) = .ok (.slice a2 (j + 1) c2) w') ∧ Hid (Blk w' q 31 #[.slice a j c]) ∧ Hid (∃ xs', xs'.length = j + 1 ∧ xs'.map BV.k = (bs.take (j + 1)).map (fun x => boB x.k) ∧ LwO (w'.setCell ⟨q, 0, none⟩ (.slice a2 (j + 1) c2)) (w.heap.size + 2) (.slice a2 (j + 1) c2) xs' ∧ Blk (w'.setCell ⟨q, 0, none⟩ (.slice a2 (j + 1) c2)) q 31 #[.slice a2 (j + 1) c2] ∧ Blk (w'.setCell ⟨q, 0, none⟩ (.slice a2 (j + 1) c2)) (w.heap.size + 1) 31 #[.slice none 0 0] ∧ Below w.heap.size w (w'.setCell ⟨q, 0, none⟩ (.slice a2 (j + 1) c2)))) := hid fun W hW da dc ea ec ra' rc' ho => by
        have hUs : w.heap.size + 2 ≤ U.heap.size := by have := HP1.out.lt; omega
        have hlw := HL1.out.kept hW
        obtain ⟨a2, c2, w', r1, r2, r3⟩ := hlw.push (by have := hW.size; omega) (by have := hxl.out; omega) (boB K) da ea ra' (boB K).dec.length dc (boB K).enc.length ec (boB K).rows.length rc' (ho.mono hUs)
        rw [hxl.out] at r1 r2 r3
        have hrow : W.ownsRow (w.heap.size + 2) 25 3 (.slice a j c) xs.length (xs.flatMap cBV) := hlw.row
        have b1 := grow_blkP r3.out hrow (HP1.out.kept hW) (by decide)
        have b2 := grow_blkP r3.out hrow (HR1.out.kept hW) (by decide)
        have ne1 : q ≠ w.heap.size + 1 := by omega
        have hkk : ∀ {k : BK} {d e r : Value}, BkO w' (w.heap.size + 2) k d e r → BkO (w'.setCell ⟨q, 0, none⟩ (.slice a2 (j + 1) c2)) (w.heap.size + 2) k d e r := fun z => ⟨own_othQ z.hd b1 (by decide), own_othQ z.he b1 (by decide), own_othQ z.hr b1 (by decide), z.ap⟩
        refine ⟨a2, c2, w', r1, hid b1, hid ⟨_, ?_, ?_, ⟨own_othQ r2.out.row b1 (by decide), fun x hx => hkk (r2.out.el x hx)⟩, (b1.set 0 _).is (by simp), b2.other (a := ⟨q, 0, none⟩) (fun e => ne1 e.symm) _, ?_⟩⟩
        · simp [hxl.out]
        · rw [HTK.out, List.map_append, hmap.out]; rfl
        · refine Below.setCell ((HB1.out.trans (hW.mono (by omega))).trans (r3.out.below (by have := hW.size; omega) (fun k hk => ?_))) (by show w.heap.size ≤ q; omega) _
          have := (own_type hrow hk).1
          omega
      have xb := HBX.out.cellF
      have zb := HBX.out.lt
      have xp := HP1.out.cellF
      have yp := HP1.out.frz
      have zp := HP1.out.lt
      go_region_law (first | (refine step_append_ran rfl _ _ 29 29 rfl rfl _ _ _ _ rfl rfl HRUN.out ?_) | (go_simp; go_wp2_with (go_at_call 15; refine (HBJ.out _ da ea ra dc ec rc (HBK.out.kept (by first | exact below_drew1 _ | exact Below.refl _ _))).mono ?_; rintro e u1 ⟨da', dc', ea', ec', ra', rc', rfl, ho, hbx⟩; have HU1 : Hid (Below U.heap.size U u1) := hid (bl_then (below_drew1 _) hbx); obtain ⟨a3, c3, w3, HRUN, HB3, HE⟩ := HAP.out u1 HU1.out da' dc' ea' ec' ra' rc' ho; have xp1 := (HP1.out.kept HU1.out).cellF; have zp1 := (HP1.out.kept HU1.out).lt; have xp3 := HB3.out.cellF; have yp3 := HB3.out.frz; have zp3 := HB3.out.lt)))
      all_goals
        obtain ⟨xs', g1, g2, g3, g4, g5, g6⟩ := HE.out
        replace g3 := hid g3
        replace g4 := hid g4
        replace g5 := hid g5
        replace g6 := hid g6
        go_wp2
        exact ⟨⟨j + 1, a3, c3, xs', by simp, by omega, hid g1, hid g2, g3, g4, g5, g6⟩, by simp [numAt]; omega⟩
    · have h3 : ¬ (j : Int) < (bs.length : Int) := by omega
      have ej : bs.take j = bs := List.take_of_length_le (by omega)
      rw [ej] at hmap
      have xr := HBR.out.cellF
      have yr := HBR.out.frz
      have zr := HBR.out.lt
      have xp := HBP.out.cellF
      have zp := HBP.out.lt
      go_wp2
      refine bodyPost_ret (v := .tuple #[.agg #[.slice a j c], .int .i64 0]) (by simp [results, Try.results7, go_sem, xr, zr, yr]) rfl ?_
      have hx := hxl.out
      subst hx
      have hk2 : ∀ {k : BK} {d e r : Value}, BkO wr (w.heap.size + 2) k d e r → BkO (wr.setCell ⟨w.heap.size + 1, 0, none⟩ (.slice a xs.length c)) w.heap.size k d e r := fun z => BkO.mono ⟨own_othQ z.hd HBR.out (by decide), own_othQ z.he HBR.out (by decide), own_othQ z.hr HBR.out (by decide), z.ap⟩ (by omega)
      exact ⟨a, c, xs, rfl, hmap.out, ⟨own_mono (own_othQ HLW.out.row HBR.out (by decide)) (by omega), fun x hx => hk2 (HLW.out.el x hx)⟩, Below.setCell hb.out (by show w.heap.size ≤ w.heap.size + 1; omega) _⟩
set_option maxHeartbeats 1000000
theorem sm_one : bkSm oneK := by unfold bkSm; decide
theorem in_one : kI oneK := by
  refine ⟨fun x hx => (by cases hx), fun x hx => (by cases hx), fun x hx => ?_⟩
  have e : x = ⟨0, 0⟩ := by simpa [oneK] using hx
  subst e
  exact ⟨by unfold oI64; decide, by unfold oI64; decide⟩
theorem ok_one : tbC oneK → RiseT (chA oneK.dec).1 ∧ (chA oneK.dec).1.length < 20 := fun h => absurd h.2.1 (by decide)
theorem cnt_two : cntK [boB oneK, boB lowK] = 26 := by rw [bo_one, bo_low]; kernel_rfl
theorem progTwo (V3 : World) (d0 e0 r0 d1 e1 r1 : Value) (gp : Nat) (HPG : PgR V3 (.slice (some ⟨gp, 0, none⟩) 2 2) (twoV d0 e0 r0 d1 e1 r1)) {bE bL : BK} (hE : boB oneK = bE) (hL : boB lowK = bL) : Calls Try.prog 7 #[.agg #[.slice (some ⟨gp, 0, none⟩) 2 2]] V3 (ProgP V3 [bE, bL] 0) := by
  have hvb := vbTwo d0 e0 r0 d1 e1 r1
  have hmk : (twoV d0 e0 r0 d1 e1 r1).map (fun x => boB x.k) = [bE, bL] := by rw [← hE, ← hL]; rfl
  have hln : (twoV d0 e0 r0 d1 e1 r1).length = 2 := rfl
  have m1 : ∀ x ∈ twoV d0 e0 r0 d1 e1 r1, bkSm x.k := fun x hx => by
    unfold twoV at hx
    simp only [List.mem_cons, List.not_mem_nil, or_false] at hx
    rcases hx with rfl | rfl
    · exact sm_one
    · exact sm_low
  have m2 : ∀ x ∈ twoV d0 e0 r0 d1 e1 r1, kI x.k := fun x hx => by
    unfold twoV at hx
    simp only [List.mem_cons, List.not_mem_nil, or_false] at hx
    rcases hx with rfl | rfl
    · exact in_one
    · exact in_low
  have m3 : ∀ x ∈ twoV d0 e0 r0 d1 e1 r1, tbC x.k → RiseT (chA x.k.dec).1 ∧ (chA x.k.dec).1.length < 20 := fun x hx => by
    unfold twoV at hx
    simp only [List.mem_cons, List.not_mem_nil, or_false] at hx
    rcases hx with rfl | rfl
    · exact ok_one
    · exact ok_low
  generalize twoV d0 e0 r0 d1 e1 r1 = B2 at *
  rw [← hln] at HPG ⊢
  rw [← hmk]
  have h128 : B2.length ≤ 128 := by rw [hln]; decide
  have HP : PgR V3 (.slice (some ⟨gp, 0, none⟩) B2.length B2.length) B2 := HPG
  exact programT V3 B2 (some ⟨gp, 0, none⟩) B2.length HP h128 hvb m1 m2 m3
theorem LwO_prog {w : World} {base : Nat} {v : Value} {xs : List BV} (h : LwO w base v xs) : PgR w v xs := ⟨own_row h.row (fun _ _ => trivial), fun x hx => (h.el x hx).row⟩
/-- A call on a block of which is known what it holds. -/
def OnB (fn : FuncId) (k k' : BK) : Prop := ∀ (W : World) (da ea ra : Option Addr) (dc ec rc : Nat), BkR W k (.slice da k.dec.length dc) (.slice ea k.enc.length ec) (.slice ra k.rows.length rc) → Calls Try.prog fn #[.agg #[.slice da k.dec.length dc, .slice ea k.enc.length ec, .slice ra k.rows.length rc]] W (BlkA W k')
/-- Two blocks are the same. -/
def SameB (k k' : BK) : Prop := ∀ (W : World) (aa ba ca da ea fa : Option Addr) (ac bc cc dc ec fc : Nat), BkR W k (.slice aa k.dec.length ac) (.slice ba k.enc.length bc) (.slice ca k.rows.length cc) → BkR W k' (.slice da k'.dec.length dc) (.slice ea k'.enc.length ec) (.slice fa k'.rows.length fc) → Calls Try.prog 9 #[.agg #[.slice aa k.dec.length ac, .slice ba k.enc.length bc, .slice ca k.rows.length cc], .agg #[.slice da k'.dec.length dc, .slice ea k'.enc.length ec, .slice fa k'.rows.length fc]] W fun e w' => e = .returned (.bool true) ∧ Below W.heap.size W w'
theorem same_self {k k' : BK} (h : k = k') : SameB k k' := by
  subst h
  exact fun W aa ba ca da ea fa ac bc cc dc ec fc h1 h2 => sameT14 W k aa ba ca da ea fa ac bc cc dc ec fc h1 h2
/-- The letters of the examples' blocks. -/
structure Ex14 (K1 K2 K3 K4 E1 E2 : BK) : Prop where
  t1 : OnB 13 lowK K1
  t2 : OnB 12 K1 K2
  t3 : OnB 11 K2 K3
  t4 : OnB 10 K3 K4
  s1 : SameB K4 betK
  b1 : OnB 15 oneK E1
  s2 : SameB E1 oneK
  b2 : OnB 10 oneK E2
  s3 : SameB E2 oneK
theorem ex14 : ∃ K1 K2 K3 K4 E1 E2, Ex14 K1 K2 K3 K4 E1 E2 :=
  ⟨tbB lowK, fuB (tbB lowK), thB (fuB (tbB lowK)), boB lowK, boB oneK, trB oneK,
    fun W da ea ra dc ec rc h => tablesT W lowK da ea ra dc ec rc h sm_low ok_low,
    fun W da ea ra dc ec rc h => fuseT W _ da ea ra dc ec rc h (tbB_sm sm_low ok_low) (tbB_in in_low sm_low),
    fun W da ea ra dc ec rc h => threadT W _ da ea ra dc ec rc h (fuB_sm (tbB_sm sm_low ok_low)) (fuB_in (tbB_in in_low sm_low) (tbB_sm sm_low ok_low)),
    fun W da ea ra dc ec rc h => trimT W _ da ea ra dc ec rc h (thB_sm (fuB_sm (tbB_sm sm_low ok_low))) (thB_in (fuB_in (tbB_in in_low sm_low) (tbB_sm sm_low ok_low)) (fuB_sm (tbB_sm sm_low ok_low))),
    same_self bo_low,
    fun W da ea ra dc ec rc h => blockT W oneK da ea ra dc ec rc h sm_one in_one ok_one,
    same_self bo_one,
    fun W da ea ra dc ec rc h => trimT W oneK da ea ra dc ec rc h sm_one in_one,
    same_self tr_one⟩
theorem count26 (W : World) (pa : Option Addr) (pc : Nat) (xs : List BV) {bE bL : BK} (hE : boB oneK = bE) (hL : boB lowK = bL) (hx : xs.map BV.k = [bE, bL]) (hp : PgR W (.slice pa xs.length pc) xs) : Calls Try.prog 16 #[.agg #[.slice pa xs.length pc]] W fun e w' => e = .returned (.int .i64 26) ∧ Below W.heap.size W w' := by
  have hl : xs.length = 2 := by have := congrArg List.length hx; simpa using this
  have hm : ∀ x ∈ xs, bkSm x.k := fun x hx2 => by
    have h1 : x.k ∈ [bE, bL] := by rw [← hx]; exact List.mem_map_of_mem hx2
    rw [← hE, ← hL, bo_one, bo_low] at h1
    simp only [List.mem_cons, List.not_mem_nil, or_false] at h1
    rcases h1 with h1 | h1
    · rw [h1]; exact sm_one
    · rw [h1]; unfold bkSm; decide
  have q := countT W xs pa pc hp (by omega) hm
  rw [hx, ← hE, ← hL, cnt_two] at q
  exact q
theorem count0 (W : World) : Calls Try.prog 16 #[.agg #[.slice none 0 0]] W fun e w' => e = .returned (.int .i64 0) ∧ Below W.heap.size W w' :=
  countT W [] none 0 ⟨rowS_nil _ _ _, fun x hx => by cases hx⟩ (by decide) (fun x hx => by cases hx)
set_option maxHeartbeats 40000000
theorem optKnownW (w : World) : Calls Try.prog 3 #[] w fun e w' => e = .returned (.bool true) ∧ Below w.heap.size w w' := by
  obtain ⟨K1, K2, K3, K4, E1, E2, hex⟩ := ex14
  have HEX := hid hex
  clear hex
  obtain ⟨bE, bEo⟩ : ∃ k, Hid (boB oneK = k) := ⟨_, hid rfl⟩
  obtain ⟨bL, bLo⟩ : ∃ k, Hid (boB lowK = k) := ⟨_, hid rfl⟩
  go_enter Try.func3, Try.ntmps3
  go_wp2_with fail
  refine (loweredT w).mono ?_
  rintro e u ⟨h1, h2, rfl, hk, hb⟩
  have HB0 := hid hb
  have HK0 := hid hk
  clear hk hb
  go_wp2_with fail
  have HV : Below u.heap.size u ((((u.alloc (.cells #[.slice (some ⟨h1, 0, none⟩) 17 17, .slice (some ⟨h2, 0, none⟩) 10 10, .slice none 0 0] 25)).alloc (.cells #[.int .i64 0, .int .i64 0] 28)).alloc (.cells #[.slice none 0 0, .slice none 0 0, .slice (some ⟨u.heap.size + 1, 0, none⟩) 1 1] 25)).alloc (.cells #[.slice none 0 0, .slice none 0 0, .slice none 0 0] 25)) := by exact blBy
  have P1 : Hid (Blk ((((u.alloc (.cells #[.slice (some ⟨h1, 0, none⟩) 17 17, .slice (some ⟨h2, 0, none⟩) 10 10, .slice none 0 0] 25)).alloc (.cells #[.int .i64 0, .int .i64 0] 28)).alloc (.cells #[.slice none 0 0, .slice none 0 0, .slice (some ⟨u.heap.size + 1, 0, none⟩) 1 1] 25)).alloc (.cells #[.slice none 0 0, .slice none 0 0, .slice none 0 0] 25)) u.heap.size 25 #[.slice (some ⟨h1, 0, none⟩) 17 17, .slice (some ⟨h2, 0, none⟩) 10 10, .slice none 0 0]) := hid ((((Blk.new _ _ _).kept (below_alloc _)).kept (below_alloc _)).kept (below_alloc _))
  have GE : Hid (Blk ((((u.alloc (.cells #[.slice (some ⟨h1, 0, none⟩) 17 17, .slice (some ⟨h2, 0, none⟩) 10 10, .slice none 0 0] 25)).alloc (.cells #[.int .i64 0, .int .i64 0] 28)).alloc (.cells #[.slice none 0 0, .slice none 0 0, .slice (some ⟨u.heap.size + 1, 0, none⟩) 1 1] 25)).alloc (.cells #[.slice none 0 0, .slice none 0 0, .slice none 0 0] 25)) (u.heap.size + 1) 28 #[.int .i64 0, .int .i64 0]) := hid (((Blk.newAt (by simp)).kept (below_alloc _)).kept (below_alloc _))
  have P2 : Hid (Blk ((((u.alloc (.cells #[.slice (some ⟨h1, 0, none⟩) 17 17, .slice (some ⟨h2, 0, none⟩) 10 10, .slice none 0 0] 25)).alloc (.cells #[.int .i64 0, .int .i64 0] 28)).alloc (.cells #[.slice none 0 0, .slice none 0 0, .slice (some ⟨u.heap.size + 1, 0, none⟩) 1 1] 25)).alloc (.cells #[.slice none 0 0, .slice none 0 0, .slice none 0 0] 25)) (u.heap.size + 1 + 1) 25 #[.slice none 0 0, .slice none 0 0, .slice (some ⟨u.heap.size + 1, 0, none⟩) 1 1]) := hid ((Blk.newAt (by simp)).kept (below_alloc _))
  have G0 : Hid (Blk ((((u.alloc (.cells #[.slice (some ⟨h1, 0, none⟩) 17 17, .slice (some ⟨h2, 0, none⟩) 10 10, .slice none 0 0] 25)).alloc (.cells #[.int .i64 0, .int .i64 0] 28)).alloc (.cells #[.slice none 0 0, .slice none 0 0, .slice (some ⟨u.heap.size + 1, 0, none⟩) 1 1] 25)).alloc (.cells #[.slice none 0 0, .slice none 0 0, .slice none 0 0] 25)) (u.heap.size + 1 + 1 + 1) 25 #[.slice none 0 0, .slice none 0 0, .slice none 0 0]) := hid (Blk.newAt (by simp))
  replace HB0 := hid (below_trans HB0.out HV)
  replace HK0 := hid (HK0.out.kept HV)
  clear HV
  generalize ((((u.alloc (.cells #[.slice (some ⟨h1, 0, none⟩) 17 17, .slice (some ⟨h2, 0, none⟩) 10 10, .slice none 0 0] 25)).alloc (.cells #[.int .i64 0, .int .i64 0] 28)).alloc (.cells #[.slice none 0 0, .slice none 0 0, .slice (some ⟨u.heap.size + 1, 0, none⟩) 1 1] 25)).alloc (.cells #[.slice none 0 0, .slice none 0 0, .slice none 0 0] 25)) = V at *
  refine (progNil V _ G0.out).mono ?_
  rintro e u2 ⟨rfl, hb⟩
  have hb2 : Below V.heap.size V (u2.alloc (.cells #[.slice none 0 0] 31)) := below_trans hb (below_alloc _)
  replace P1 := hid (P1.out.kept hb2)
  replace GE := hid (GE.out.kept hb2)
  replace P2 := hid (P2.out.kept hb2)
  replace HB0 := hid (below_trans HB0.out hb2)
  replace HK0 := hid (HK0.out.kept hb2)
  have x1 := P1.out.cellF
  have z1 := P1.out.lt
  have x2 := P2.out.cellF
  have z2 := P2.out.lt
  clear hb hb2 G0
  go_wp2_with fail
  have hV2 : (u2.alloc (.cells #[.slice none 0 0] 31)).heap.size = u2.heap.size + 1 := by simp
  generalize u2.alloc (.cells #[.slice none 0 0] 31) = V2 at *
  have hbg : Below V2.heap.size V2 (V2.alloc (.cells #[.slice none 0 0, .slice none 0 0, .slice (some ⟨u.heap.size + 1, 0, none⟩) 1 1, .slice (some ⟨h1, 0, none⟩) 17 17, .slice (some ⟨h2, 0, none⟩) 10 10, .slice none 0 0] 25)) := below_alloc _
  have GP : Hid (Blk (V2.alloc (.cells #[.slice none 0 0, .slice none 0 0, .slice (some ⟨u.heap.size + 1, 0, none⟩) 1 1, .slice (some ⟨h1, 0, none⟩) 17 17, .slice (some ⟨h2, 0, none⟩) 10 10, .slice none 0 0] 25)) V2.heap.size 25 #[.slice none 0 0, .slice none 0 0, .slice (some ⟨u.heap.size + 1, 0, none⟩) 1 1, .slice (some ⟨h1, 0, none⟩) 17 17, .slice (some ⟨h2, 0, none⟩) 10 10, .slice none 0 0]) := hid (Blk.new _ _ _)
  replace P1 := hid (P1.out.kept hbg)
  replace GE := hid (GE.out.kept hbg)
  replace P2 := hid (P2.out.kept hbg)
  replace HB0 := hid (below_trans HB0.out hbg)
  replace HK0 := hid (HK0.out.kept hbg)
  clear x1 z1 x2 z2 hbg
  generalize V2.alloc (.cells #[.slice none 0 0, .slice none 0 0, .slice (some ⟨u.heap.size + 1, 0, none⟩) 1 1, .slice (some ⟨h1, 0, none⟩) 17 17, .slice (some ⟨h2, 0, none⟩) 10 10, .slice none 0 0] 25) = V3 at *
  rw [hV2] at GP
  clear hV2
  obtain ⟨gp, hgp⟩ : ∃ gp, gp = u2.heap.size + 1 := ⟨_, rfl⟩
  rw [← hgp] at GP ⊢
  have HK1 : Hid (BkR V3 oneK (.slice none 0 0) (.slice none 0 0) (.slice (some ⟨u.heap.size + 1, 0, none⟩) 1 1)) := hid ⟨rowS_nil _ _ _, rowS_nil _ _ _, rowOf' (t := 28) (cs := #[.int .i64 0, .int .i64 0]) GE.out 2 1 (oneK.rows.flatMap cLN) (by kernel_rfl) (by kernel_rfl) (by decide)⟩
  have HPG : PgR V3 (.slice (some ⟨gp, 0, none⟩) 2 2) (twoV (.slice none 0 0) (.slice none 0 0) (.slice (some ⟨u.heap.size + 1, 0, none⟩) 1 1) (.slice (some ⟨h1, 0, none⟩) 17 17) (.slice (some ⟨h2, 0, none⟩) 10 10) (.slice none 0 0)) := by
    refine ⟨rowOf' (t := 25) (cs := #[.slice none 0 0, .slice none 0 0, .slice (some ⟨u.heap.size + 1, 0, none⟩) 1 1, .slice (some ⟨h1, 0, none⟩) 17 17, .slice (some ⟨h2, 0, none⟩) 10 10, .slice none 0 0]) GP.out 3 2 ((twoV (.slice none 0 0) (.slice none 0 0) (.slice (some ⟨u.heap.size + 1, 0, none⟩) 1 1) (.slice (some ⟨h1, 0, none⟩) 17 17) (.slice (some ⟨h2, 0, none⟩) 10 10) (.slice none 0 0)).flatMap cBV) rfl rfl (by decide), fun x hx => ?_⟩
    unfold twoV at hx
    simp only [List.mem_cons, List.not_mem_nil, or_false] at hx
    rcases hx with rfl | rfl
    · exact HK1.out
    · exact HK0.out
  refine (progTwo V3 _ _ _ _ _ _ gp HPG bEo.out bLo.out).mono ?_
  clear HPG
  rintro e u4 ⟨pa, pc, xs, rfl, hxs, hlw, hb4⟩
  have hb5 : Below V3.heap.size V3 (u4.alloc (.cells #[.slice pa xs.length pc] 31)) := below_trans hb4 (below_alloc _)
  have P5 : Hid (Blk (u4.alloc (.cells #[.slice pa xs.length pc] 31)) u4.heap.size 31 #[.slice pa xs.length pc]) := hid (Blk.new _ _ _)
  have HPX := hid ((LwO_prog hlw).kept (below_alloc (.cells #[.slice pa xs.length pc] 31)))
  replace P1 := hid (P1.out.kept hb5)
  replace P2 := hid (P2.out.kept hb5)
  replace HB0 := hid (below_trans HB0.out hb5)
  replace HK0 := hid (HK0.out.kept hb5)
  replace HK1 := hid (HK1.out.kept hb5)
  have HXL : Hid (xs.map BV.k = [bE, bL]) := hid hxs
  have hxl : Hid (xs.length = 2) := hid (by have := congrArg List.length hxs; simpa using this)
  clear hb4 hb5 hlw hxs GP GE
  go_wp2_with fail
  generalize (u4.alloc (.cells #[.slice pa xs.length pc] 31)) = V4 at *
  have HSF : Hid (∀ W, Below V4.heap.size V4 W → W.cell? ⟨u.heap.size, 0, none⟩ = some (.slice (some ⟨h1, 0, none⟩) 17 17) ∧ W.cell? ⟨u.heap.size, 1, none⟩ = some (.slice (some ⟨h2, 0, none⟩) 10 10) ∧ W.cell? ⟨u.heap.size, 2, none⟩ = some (.slice none 0 0) ∧ W.cell? ⟨u.heap.size + 1 + 1, 0, none⟩ = some (.slice none 0 0) ∧ W.cell? ⟨u.heap.size + 1 + 1, 1, none⟩ = some (.slice none 0 0) ∧ W.cell? ⟨u.heap.size + 1 + 1, 2, none⟩ = some (.slice (some ⟨u.heap.size + 1, 0, none⟩) 1 1) ∧ W.cell? ⟨u4.heap.size, 0, none⟩ = some (.slice pa xs.length pc)) := hid fun W hW => ⟨(P1.out.kept hW).cell 0 _ rfl, (P1.out.kept hW).cell 1 _ rfl, (P1.out.kept hW).cell 2 _ rfl, (P2.out.kept hW).cell 0 _ rfl, (P2.out.kept hW).cell 1 _ rfl, (P2.out.kept hW).cell 2 _ rfl, (P5.out.kept hW).cell 0 _ rfl⟩
  have HW : Hid (Below V4.heap.size V4 V4.drew) := hid (below_drew1 _)
  have HKO : Hid (BkR V4.drew oneK (.slice none 0 0) (.slice none 0 0) (.slice (some ⟨u.heap.size + 1, 0, none⟩) 1 1)) := hid (HK1.out.kept (below_drew1 _))
  have HKL : Hid (BkR V4.drew lowK (.slice (some ⟨h1, 0, none⟩) 17 17) (.slice (some ⟨h2, 0, none⟩) 10 10) (.slice none 0 0)) := hid (HK0.out.kept (below_drew1 _))
  have HPQ := hid (HPX.out.kept (below_drew1 _))
  have hx2 : ((xs.length : Int) == 2) = true := by rw [hxl.out]; rfl
  clear P1 P2 P5 HK0 HK1 HPX hxl
  go_region_held3 (fun W => W.cell? ⟨u.heap.size, 0, none⟩ = some (.slice (some ⟨h1, 0, none⟩) 17 17) ∧ W.cell? ⟨u.heap.size, 1, none⟩ = some (.slice (some ⟨h2, 0, none⟩) 10 10) ∧ W.cell? ⟨u.heap.size, 2, none⟩ = some (.slice none 0 0) ∧ W.cell? ⟨u.heap.size + 1 + 1, 0, none⟩ = some (.slice none 0 0) ∧ W.cell? ⟨u.heap.size + 1 + 1, 1, none⟩ = some (.slice none 0 0) ∧ W.cell? ⟨u.heap.size + 1 + 1, 2, none⟩ = some (.slice (some ⟨u.heap.size + 1, 0, none⟩) 1 1) ∧ W.cell? ⟨u4.heap.size, 0, none⟩ = some (.slice pa xs.length pc)) (exact HSF.out _ HW.out) (first | (have fl := RT; clear fl; go_at_call 9; refine (HEX.out.s3 _ da8 ea8 ra8 none none (some ⟨u.heap.size + 1, 0, none⟩) dc8 ec8 rc8 0 0 1 RT.out HKO.out).mono ?_; rintro e u9 ⟨rfl, hbu⟩; clear RT; have DN := HW; replace HW := hid (below_trans HW.out hbu); (try replace HKO := hid (HKO.out.kept hbu)); (try replace HKL := hid (HKL.out.kept hbu)); (try replace HPQ := hid (HPQ.out.kept hbu)); (try replace R1 := hid (R1.out.kept hbu)); (try replace R2 := hid (R2.out.kept hbu)); (try replace R3 := hid (R3.out.kept hbu)); (try replace R4 := hid (R4.out.kept hbu)); (try replace R5 := hid (R5.out.kept hbu)); (try replace RE := hid (RE.out.kept hbu)); (try replace RT := hid (RT.out.kept hbu)); clear hbu) | (have fl := RE; clear fl; go_at_call 9; refine (HEX.out.s2 _ da7 ea7 ra7 none none (some ⟨u.heap.size + 1, 0, none⟩) dc7 ec7 rc7 0 0 1 RE.out HKO.out).mono ?_; rintro e u9 ⟨rfl, hbu⟩; clear RE; have DE := HW; replace HW := hid (below_trans HW.out hbu); (try replace HKO := hid (HKO.out.kept hbu)); (try replace HKL := hid (HKL.out.kept hbu)); (try replace HPQ := hid (HPQ.out.kept hbu)); (try replace R1 := hid (R1.out.kept hbu)); (try replace R2 := hid (R2.out.kept hbu)); (try replace R3 := hid (R3.out.kept hbu)); (try replace R4 := hid (R4.out.kept hbu)); (try replace R5 := hid (R5.out.kept hbu)); (try replace RE := hid (RE.out.kept hbu)); (try replace RT := hid (RT.out.kept hbu)); clear hbu) | (have fl := R5; clear fl; go_at_call 9; refine (HEX.out.s1 _ da4 ea4 ra4 (some ⟨g1, 0, none⟩) (some ⟨g2, 0, none⟩) (some ⟨g3, 0, none⟩) dc4 ec4 rc4 12 9 4 R4.out R5.out).mono ?_; rintro e u9 ⟨rfl, hbu⟩; clear R4 R5; have DS := HW; replace HW := hid (below_trans HW.out hbu); (try replace HKO := hid (HKO.out.kept hbu)); (try replace HKL := hid (HKL.out.kept hbu)); (try replace HPQ := hid (HPQ.out.kept hbu)); (try replace R1 := hid (R1.out.kept hbu)); (try replace R2 := hid (R2.out.kept hbu)); (try replace R3 := hid (R3.out.kept hbu)); (try replace R4 := hid (R4.out.kept hbu)); (try replace R5 := hid (R5.out.kept hbu)); (try replace RE := hid (RE.out.kept hbu)); (try replace RT := hid (RT.out.kept hbu)); clear hbu) | (have fl := DC; clear fl; go_at_call 16; refine (count0 _).mono ?_; rintro e u9 ⟨rfl, hbu⟩; replace HW := hid (below_trans HW.out hbu); (try replace HKO := hid (HKO.out.kept hbu)); (try replace HKL := hid (HKL.out.kept hbu)); (try replace HPQ := hid (HPQ.out.kept hbu)); (try replace R1 := hid (R1.out.kept hbu)); (try replace R2 := hid (R2.out.kept hbu)); (try replace R3 := hid (R3.out.kept hbu)); (try replace R4 := hid (R4.out.kept hbu)); (try replace R5 := hid (R5.out.kept hbu)); (try replace RE := hid (RE.out.kept hbu)); (try replace RT := hid (RT.out.kept hbu)); clear hbu) | (have fl := DN; clear fl; go_at_call 16; refine (count26 _ pa pc xs bEo.out bLo.out HXL.out HPQ.out).mono ?_; rintro e u9 ⟨rfl, hbu⟩; have DC := HW; replace HW := hid (below_trans HW.out hbu); (try replace HKO := hid (HKO.out.kept hbu)); (try replace HKL := hid (HKL.out.kept hbu)); (try replace HPQ := hid (HPQ.out.kept hbu)); (try replace R1 := hid (R1.out.kept hbu)); (try replace R2 := hid (R2.out.kept hbu)); (try replace R3 := hid (R3.out.kept hbu)); (try replace R4 := hid (R4.out.kept hbu)); (try replace R5 := hid (R5.out.kept hbu)); (try replace RE := hid (RE.out.kept hbu)); (try replace RT := hid (RT.out.kept hbu)); clear hbu) | (have fl := DE; clear fl; go_at_call 10; refine (HEX.out.b2 _ none none (some ⟨u.heap.size + 1, 0, none⟩) 0 0 1 HKO.out).mono ?_; rintro e u9 ⟨da8, dc8, ea8, ec8, ra8, rc8, rfl, hk, hbu⟩; have RT := hid hk.row; clear hk; replace HW := hid (below_trans HW.out hbu); (try replace HKO := hid (HKO.out.kept hbu)); (try replace HKL := hid (HKL.out.kept hbu)); (try replace HPQ := hid (HPQ.out.kept hbu)); (try replace R1 := hid (R1.out.kept hbu)); (try replace R2 := hid (R2.out.kept hbu)); (try replace R3 := hid (R3.out.kept hbu)); (try replace R4 := hid (R4.out.kept hbu)); (try replace R5 := hid (R5.out.kept hbu)); (try replace RE := hid (RE.out.kept hbu)); (try replace RT := hid (RT.out.kept hbu)); clear hbu) | (have fl := DS; clear fl; go_at_call 15; refine (HEX.out.b1 _ none none (some ⟨u.heap.size + 1, 0, none⟩) 0 0 1 HKO.out).mono ?_; rintro e u9 ⟨da7, dc7, ea7, ec7, ra7, rc7, rfl, hk, hbu⟩; have RE := hid hk.row; clear hk; replace HW := hid (below_trans HW.out hbu); (try replace HKO := hid (HKO.out.kept hbu)); (try replace HKL := hid (HKL.out.kept hbu)); (try replace HPQ := hid (HPQ.out.kept hbu)); (try replace R1 := hid (R1.out.kept hbu)); (try replace R2 := hid (R2.out.kept hbu)); (try replace R3 := hid (R3.out.kept hbu)); (try replace R4 := hid (R4.out.kept hbu)); (try replace R5 := hid (R5.out.kept hbu)); (try replace RE := hid (RE.out.kept hbu)); (try replace RT := hid (RT.out.kept hbu)); clear hbu) | (have fl := R3; clear fl; go_at_call 10; refine (HEX.out.t4 _ _ _ _ _ _ _ R3.out).mono ?_; rintro e u9 ⟨da4, dc4, ea4, ec4, ra4, rc4, rfl, hk, hbu⟩; have R4 := hid hk.row; clear hk R3; replace HW := hid (below_trans HW.out hbu); (try replace HKO := hid (HKO.out.kept hbu)); (try replace HKL := hid (HKL.out.kept hbu)); (try replace HPQ := hid (HPQ.out.kept hbu)); (try replace R1 := hid (R1.out.kept hbu)); (try replace R2 := hid (R2.out.kept hbu)); (try replace R3 := hid (R3.out.kept hbu)); (try replace R4 := hid (R4.out.kept hbu)); (try replace R5 := hid (R5.out.kept hbu)); (try replace RE := hid (RE.out.kept hbu)); (try replace RT := hid (RT.out.kept hbu)); clear hbu) | (have fl := R2; clear fl; go_at_call 11; refine (HEX.out.t3 _ _ _ _ _ _ _ R2.out).mono ?_; rintro e u9 ⟨da3, dc3, ea3, ec3, ra3, rc3, rfl, hk, hbu⟩; have R3 := hid hk.row; clear hk R2; replace HW := hid (below_trans HW.out hbu); (try replace HKO := hid (HKO.out.kept hbu)); (try replace HKL := hid (HKL.out.kept hbu)); (try replace HPQ := hid (HPQ.out.kept hbu)); (try replace R1 := hid (R1.out.kept hbu)); (try replace R2 := hid (R2.out.kept hbu)); (try replace R3 := hid (R3.out.kept hbu)); (try replace R4 := hid (R4.out.kept hbu)); (try replace R5 := hid (R5.out.kept hbu)); (try replace RE := hid (RE.out.kept hbu)); (try replace RT := hid (RT.out.kept hbu)); clear hbu) | (have fl := R1; clear fl; go_at_call 12; refine (HEX.out.t2 _ _ _ _ _ _ _ R1.out).mono ?_; rintro e u9 ⟨da2, dc2, ea2, ec2, ra2, rc2, rfl, hk, hbu⟩; have R2 := hid hk.row; clear hk R1; replace HW := hid (below_trans HW.out hbu); (try replace HKO := hid (HKO.out.kept hbu)); (try replace HKL := hid (HKL.out.kept hbu)); (try replace HPQ := hid (HPQ.out.kept hbu)); (try replace R1 := hid (R1.out.kept hbu)); (try replace R2 := hid (R2.out.kept hbu)); (try replace R3 := hid (R3.out.kept hbu)); (try replace R4 := hid (R4.out.kept hbu)); (try replace R5 := hid (R5.out.kept hbu)); (try replace RE := hid (RE.out.kept hbu)); (try replace RT := hid (RT.out.kept hbu)); clear hbu) | (have fl := HKL; clear fl; go_at_call 13; refine (HEX.out.t1 _ (some ⟨h1, 0, none⟩) (some ⟨h2, 0, none⟩) none 17 10 0 HKL.out).mono ?_; rintro e u9 ⟨da1, dc1, ea1, ec1, ra1, rc1, rfl, hk, hbu⟩; have R1 := hid hk.row; clear hk HKL; replace HW := hid (below_trans HW.out hbu); (try replace HKO := hid (HKO.out.kept hbu)); (try replace HKL := hid (HKL.out.kept hbu)); (try replace HPQ := hid (HPQ.out.kept hbu)); (try replace R1 := hid (R1.out.kept hbu)); (try replace R2 := hid (R2.out.kept hbu)); (try replace R3 := hid (R3.out.kept hbu)); (try replace R4 := hid (R4.out.kept hbu)); (try replace R5 := hid (R5.out.kept hbu)); (try replace RE := hid (RE.out.kept hbu)); (try replace RT := hid (RT.out.kept hbu)); clear hbu) | (go_at_call 14; refine (betterT _).mono ?_; rintro e u9 ⟨g1, g2, g3, rfl, hk, hbu⟩; have R5 := hid hk; clear hk; replace HW := hid (below_trans HW.out hbu); (try replace HKO := hid (HKO.out.kept hbu)); (try replace HKL := hid (HKL.out.kept hbu)); (try replace HPQ := hid (HPQ.out.kept hbu)); (try replace R1 := hid (R1.out.kept hbu)); (try replace R2 := hid (R2.out.kept hbu)); (try replace R3 := hid (R3.out.kept hbu)); (try replace R4 := hid (R4.out.kept hbu)); (try replace R5 := hid (R5.out.kept hbu)); (try replace RE := hid (RE.out.kept hbu)); (try replace RT := hid (RT.out.kept hbu)); clear hbu) | (go_at_call 8; refine (awakeW14 _).mono ?_; rintro e u9 ⟨rfl, hbu⟩; replace HW := hid (below_trans HW.out hbu); (try replace HKO := hid (HKO.out.kept hbu)); (try replace HKL := hid (HKL.out.kept hbu)); (try replace HPQ := hid (HPQ.out.kept hbu)); (try replace R1 := hid (R1.out.kept hbu)); (try replace R2 := hid (R2.out.kept hbu)); (try replace R3 := hid (R3.out.kept hbu)); (try replace R4 := hid (R4.out.kept hbu)); (try replace R5 := hid (R5.out.kept hbu)); (try replace RE := hid (RE.out.kept hbu)); (try replace RT := hid (RT.out.kept hbu)); clear hbu))
  go_wp2
  go_ret
  exact ⟨rfl, below_trans HB0.out HW.out⟩
end Go.Proofs.Ytliohglpbmpbhaa
