/-
  opt: Thread.
  opt: Block.
  LowerType.
  Lower.
  What a valid program's steps are asked: where all is well.
-/
import Derived.Test.YtliohglpbmpbhaaCOPt
import Derived.Test.YtliohglpbmpbhaaCKK
namespace Go.Proofs.Ytliohglpbmpbhaa
open Go.RowKit Go.Shelf
set_option maxRecDepth 1000000
attribute [local go_sem] Oper.semAt_some
set_option linter.unusedVariables false
set_option linter.unusedSimpArgs false
set_option maxHeartbeats 3000000
/-- Where a place goes on to. -/
def thG (M : Int → Option (Int × Int)) (o v : Int) : Int := match M v with
  | none => v
  | some p => if o = 4 then p.1 else p.2
def thB (k : BK) : BK := ⟨k.dec.map (thI (thG (wyA k.dec))), k.enc, k.rows.map (thL (thG (wyA k.dec)))⟩
def wyI (M : Int → Option (Int × Int)) : Prop := ∀ x p, M x = some p → oI64 p.1 ∧ oI64 p.2
theorem putW_in {M : Int → Option (Int × Int)} (h : wyI M) {k : Int} {p : Int × Int} (hp : oI64 p.1 ∧ oI64 p.2) : wyI (putW M k p) := fun x q hq => by
  unfold putW at hq
  split at hq
  · cases hq; exact hp
  · exact h x q hq
theorem wy1_in {l : List IN} (hl : ∀ x ∈ l, inI x) (hn : l.length ≤ 1048576) {M : Int → Option (Int × Int)} (h : wyI M) (k : Nat) : wyI (wy1 l M k) := by
  unfold wy1
  split
  · exact h
  · rename_i x hx
    have hk : k < l.length := (List.getElem?_eq_some_iff.1 hx).1
    have hxi := hl x (List.mem_of_getElem? hx)
    split
    · split
      · rename_i v hv
        exact putW_in h (h _ _ hv)
      · split
        · exact putW_in h ⟨by unfold oI64; dsimp only; omega, by unfold oI64; dsimp only; omega⟩
        · exact putW_in h ⟨hxi.2.1, hxi.2.1⟩
    · exact h
theorem wyA_in {l : List IN} (hl : ∀ x ∈ l, inI x) (hn : l.length ≤ 1048576) : wyI (wyA l) := by
  unfold wyA
  have : ∀ (ks : List Nat) (M : Int → Option (Int × Int)), wyI M → wyI (ks.foldl (wy1 l) M) := by
    intro ks
    induction ks with
    | nil => intro M h; exact h
    | cons k ks ih => intro M h; exact ih _ (wy1_in hl hn h k)
  exact this _ _ (fun x p h => by cases h)
theorem thG_in {M : Int → Option (Int × Int)} (h : wyI M) (o v : Int) (hv : oI64 v) : oI64 (thG M o v) := by
  unfold thG
  split
  · exact hv
  · rename_i p hp
    have := h _ _ hp
    split
    · exact this.1
    · exact this.2
theorem thI_in {G : Int → Int → Int} (hG : ∀ o v, oI64 v → oI64 (G o v)) {x : IN} (hx : inI x) : inI (thI G x) := by
  obtain ⟨h0, h1, h2, h3, h4⟩ := hx
  unfold thI
  split
  all_goals first
    | exact ⟨h0, h1, h2, h3, h4⟩
    | exact ⟨h0, hG _ _ h1, h2, h3, h4⟩
    | exact ⟨h0, h1, hG _ _ h2, h3, h4⟩
theorem thB_in {k : BK} (h : kI k) (hs : bkSm k) : kI (thB k) := by
  have hG := fun o v => thG_in (wyA_in h.d hs.1) o v
  refine ⟨fun x hx => ?_, h.e, fun x hx => ?_⟩
  · obtain ⟨y, hy, rfl⟩ := List.mem_map.1 hx
    exact thI_in hG (h.d y hy)
  · obtain ⟨y, hy, rfl⟩ := List.mem_map.1 hx
    exact ⟨(h.r y hy).1, hG _ _ (h.r y hy).2⟩
theorem thB_sm {k : BK} (hs : bkSm k) : bkSm (thB k) := ⟨by show (k.dec.map _).length ≤ _; rw [List.length_map]; exact hs.1, hs.2.1, by show (k.rows.map _).length ≤ _; rw [List.length_map]; exact hs.2.2⟩
def OneX (A : Act) (X : World) : Exit → Act → World → Prop
  | .normal, a, w => a = A ∧ w = X
  | _, _, _ => False
theorem oneX_mono {A : Act} {X : World} {Q : Exit → Act → World → Prop} (h : Q .normal A X) : ∀ e a w, OneX A X e a w → Q e a w := fun e a w hh => by
  cases e
  case normal => obtain ⟨rfl, rfl⟩ := hh; exact h
  all_goals exact hh.elim
theorem frz_alloc {w : World} {o : Obj} {a : Addr} (h : w.frozen? a = false) (hl : a.block < w.heap.size) : (w.alloc o).drew.frozen? a = false := by
  have e : (w.alloc o).drew.heap[a.block]? = w.heap[a.block]? := (below_alloc o).block _ hl
  unfold World.frozen? at h ⊢
  rw [e]
  exact h
theorem mp_neW {w : World} {b n base e size m : Nat} {M : Int → Option (Int × Int)} {v : Value} {fl : List Value} (hm : MpW w b n M) (ho : w.ownsRow base e size v m fl) : ∀ k, v.ownBlock = some k → k ≠ b := fun k hk he => by
  subst he
  obtain ⟨_, _, cur, q⟩ := own_type ho hk
  obtain ⟨Dm, ⟨es, ck, q1, q2⟩, -⟩ := hm
  rw [q1] at q
  cases q
theorem threadT (w : World) (k : BK) (da ea ra : Option Addr) (dc ec rc : Nat) (h : BkR w k (.slice da k.dec.length dc) (.slice ea k.enc.length ec) (.slice ra k.rows.length rc)) (hs : bkSm k) (hI : kI k) : Calls Try.prog 11 #[.agg #[.slice da k.dec.length dc, .slice ea k.enc.length ec, .slice ra k.rows.length rc]] w (BlkA w (thB k)) := by
  have HD := hid fun W (hW : Below w.heap.size w W) => copiedT W k da ea ra dc ec rc (h.kept hW) hs
  have HWY := hid fun W (hW : Below w.heap.size w W) => waysT W k.dec da dc (h.kept hW).hd hs.1 hI.d
  have HMM := hid (wyA_in hI.d hs.1)
  have HI1 := hid (allIN hI.d)
  have HI2 := hid (allLN hI.r)
  have HS := hid hs
  obtain ⟨T, hT⟩ : ∃ T, T = thB k := ⟨_, rfl⟩
  rw [← hT]
  have HT := hid hT
  clear h hs hI hT
  refine callsIn_wide (n := 3) |>.1 ?_
  refine callsIn_of_wp_marks Try.func11 rfl trivial ?_ rfl
  simp only [Try.ntmps11, List.size_toArray, List.length_cons, List.length_nil, Nat.reduceAdd, Nat.reduceSub, Array.replicate_succ, Array.replicate_zero, List.push_toArray, List.append_toArray, List.nil_append, List.cons_append]
  gi_wp2_with fail
  have HBB : Hid (Below w.heap.size w ((w.alloc (.cells #[.slice da k.dec.length dc, .slice ea k.enc.length ec, .slice ra k.rows.length rc] 25)).alloc (.cells #[.slice none 0 0, .slice none 0 0, .slice none 0 0] 25))) := hid (by exact blBy)
  have hsz : ((w.alloc (.cells #[.slice da k.dec.length dc, .slice ea k.enc.length ec, .slice ra k.rows.length rc] 25)).alloc (.cells #[.slice none 0 0, .slice none 0 0, .slice none 0 0] 25)).heap.size = w.heap.size + 2 := by simp
  have BB : Hid (Blk ((w.alloc (.cells #[.slice da k.dec.length dc, .slice ea k.enc.length ec, .slice ra k.rows.length rc] 25)).alloc (.cells #[.slice none 0 0, .slice none 0 0, .slice none 0 0] 25)) (w.heap.size + 1) 25 #[.slice none 0 0, .slice none 0 0, .slice none 0 0]) := hid (Blk.newAt (by simp))
  have BA : Hid (Blk ((w.alloc (.cells #[.slice da k.dec.length dc, .slice ea k.enc.length ec, .slice ra k.rows.length rc] 25)).alloc (.cells #[.slice none 0 0, .slice none 0 0, .slice none 0 0] 25)) w.heap.size 25 #[.slice da k.dec.length dc, .slice ea k.enc.length ec, .slice ra k.rows.length rc]) := hid ((Blk.new _ _ _).kept (below_alloc _))
  generalize ((w.alloc (.cells #[.slice da k.dec.length dc, .slice ea k.enc.length ec, .slice ra k.rows.length rc] 25)).alloc (.cells #[.slice none 0 0, .slice none 0 0, .slice none 0 0] 25)) = w0 at *
  refine ⟨trivial, (callsIn_wide.2 (HD.out _ HBB.out)).mono ?_⟩
  rintro e u ⟨da', dc', ea', ec', ra', rc', rfl, hbk, hb1⟩
  have HXD : Hid (∀ j, (Value.slice da' k.dec.length dc').ownBlock = some j → j < u.heap.size ∧ w0.heap.size ≤ j) := hid fun j hj => ⟨(own_type hbk.hd hj).2.1, (own_type hbk.hd hj).1⟩
  have HXE : Hid (∀ j, (Value.slice ea' k.enc.length ec').ownBlock = some j → j < u.heap.size ∧ w0.heap.size ≤ j) := hid fun j hj => ⟨(own_type hbk.he hj).2.1, (own_type hbk.he hj).1⟩
  have HXR : Hid (∀ j, (Value.slice ra' k.rows.length rc').ownBlock = some j → j < u.heap.size ∧ w0.heap.size ≤ j) := hid fun j hj => ⟨(own_type hbk.hr hj).2.1, (own_type hbk.hr hj).1⟩
  have HK := hid (hbk.kept (below_alloc (.cells #[.slice da' k.dec.length dc', .slice ea' k.enc.length ec', .slice ra' k.rows.length rc'] 25)))
  have BO : Hid (Blk (u.alloc (.cells #[.slice da' k.dec.length dc', .slice ea' k.enc.length ec', .slice ra' k.rows.length rc'] 25)) u.heap.size 25 #[.slice da' k.dec.length dc', .slice ea' k.enc.length ec', .slice ra' k.rows.length rc']) := hid (Blk.new _ _ _)
  have HBU : Hid (Below w.heap.size w (u.alloc (.cells #[.slice da' k.dec.length dc', .slice ea' k.enc.length ec', .slice ra' k.rows.length rc'] 25))) := hid (below_trans (below_trans HBB.out hb1) (below_alloc _))
  replace BB : Hid (Blk (u.alloc (.cells #[.slice da' k.dec.length dc', .slice ea' k.enc.length ec', .slice ra' k.rows.length rc'] 25)) (w.heap.size + 1) 25 #[.slice none 0 0, .slice none 0 0, .slice none 0 0]) := hid ((BB.out.kept hb1).kept (below_alloc _))
  replace BA : Hid (Blk (u.alloc (.cells #[.slice da' k.dec.length dc', .slice ea' k.enc.length ec', .slice ra' k.rows.length rc'] 25)) w.heap.size 25 #[.slice da k.dec.length dc, .slice ea k.enc.length ec, .slice ra k.rows.length rc]) := hid ((BA.out.kept hb1).kept (below_alloc _))
  have hs1 := hb1.size
  have hsO : (u.alloc (.cells #[.slice da' k.dec.length dc', .slice ea' k.enc.length ec', .slice ra' k.rows.length rc'] 25)).heap.size = u.heap.size + 1 := by simp
  have x1 := BA.out.cellF
  have z1 := BA.out.lt
  clear hbk hb1 HD
  obtain ⟨p3, hp3⟩ : ∃ p3, p3 = u.heap.size := ⟨_, rfl⟩
  gi_wp2_with fail
  generalize (u.alloc (.cells #[.slice da' k.dec.length dc', .slice ea' k.enc.length ec', .slice ra' k.rows.length rc'] 25)) = u1 at *
  refine ⟨trivial, (callsIn_wide.2 (HWY.out _ HBU.out)).mono ?_⟩
  rintro e u2 ⟨mb, mn, rfl, hmp, hmb, hb2⟩
  have HM := hid (hmp.kept (below_alloc (.cells #[.map (some mb)] 48)))
  have BW : Hid (Blk (u2.alloc (.cells #[.map (some mb)] 48)) u2.heap.size 48 #[.map (some mb)]) := hid (Blk.new _ _ _)
  replace HK := hid ((HK.out.kept hb2).kept (below_alloc (.cells #[.map (some mb)] 48)))
  replace BO := hid ((BO.out.kept hb2).kept (below_alloc (.cells #[.map (some mb)] 48)))
  replace BB := hid ((BB.out.kept hb2).kept (below_alloc (.cells #[.map (some mb)] 48)))
  replace HBU := hid (below_trans (below_trans HBU.out hb2) (below_alloc (.cells #[.map (some mb)] 48)))
  have hs2 := hb2.size
  have hsP : (u2.alloc (.cells #[.map (some mb)] 48)).heap.size = u2.heap.size + 1 := by simp
  have x3 := BO.out.cellF
  have z3 := BO.out.lt
  clear hmp hb2 x1 z1 BA HWY
  gi_wp2_with fail
  generalize (u2.alloc (.cells #[.map (some mb)] 48)) = u3 at *
  refine ⟨trivial, (callsIn_wide.2 (namedT _ da' ra' k.dec.length k.rows.length dc' rc')).mono ?_⟩
  rintro e w3 ⟨rfl, hw3⟩
  clear x3 z3
  have hb3 : Below u3.heap.size u3 w3 := by rw [hw3]; exact blBy
  have B1 : Blk w3 u3.heap.size 22 #[.slice da' k.dec.length dc'] := by rw [hw3]; exact (Blk.new _ _ _).kept (below_alloc _)
  have B2 : Blk w3 (u3.heap.size + 1) 23 #[.slice ra' k.rows.length rc'] := by rw [hw3]; exact Blk.newAt (by simp)
  have hs3 : w3.heap.size = u3.heap.size + 2 := by rw [hw3]; simp
  clear hw3
  replace HM := hid (HM.out.kept hb3)
  replace HK := hid (HK.out.kept hb3)
  replace BW := hid (BW.out.kept hb3)
  replace BO := hid (BO.out.kept hb3)
  replace BB := hid (BB.out.kept hb3)
  replace HBU := hid (below_trans HBU.out hb3)
  clear hb3
  obtain ⟨h1, m1⟩ := own_at0 HK.out.hd
  obtain ⟨h2, m2⟩ := own_at0 HK.out.hr
  have H1 := hid h1
  have H2 := hid h2
  obtain ⟨f, hf⟩ : ∃ f : Nat → Prop, f = fun j => j < w3.heap.size ∧ da'.map (·.block) ≠ some j ∧ ra'.map (·.block) ≠ some j := ⟨_, rfl⟩
  have HDD : ∀ j, da'.map (·.block) = some j → w0.heap.size ≤ j ∧ j < u.heap.size := fun j e => by
    have := HXD.out j (by rw [blk_map]; exact e)
    omega
  have HRR : ∀ j, ra'.map (·.block) = some j → w0.heap.size ≤ j ∧ j < u.heap.size := fun j e => by
    have := HXR.out j (by rw [blk_map]; exact e)
    omega
  have HFS : Hid (∀ j, f j → j < w3.heap.size) := hid fun j h => by rw [hf] at h; exact h.1
  have HFB : Hid (∀ j, u.heap.size ≤ j → j < w3.heap.size → f j) := hid fun j h1 h2 => by
    rw [hf]
    exact ⟨h2, fun e => by have := HDD j e; omega, fun e => by have := HRR j e; omega⟩
  have HF0 : Hid (∀ j, j < w0.heap.size → f j) := hid fun j h1 => by
    rw [hf]
    exact ⟨by omega, fun e => by have := HDD j e; omega, fun e => by have := HRR j e; omega⟩
  have HFN : Hid (∀ g, da'.map (·.block) = some g ∨ ra'.map (·.block) = some g → ¬ f g) := hid fun g h => by
    rw [hf]
    rintro ⟨_, q1, q2⟩
    rcases h with h | h
    · exact q1 h
    · exact q2 h
  have HFE : Hid (∀ j, (Value.slice ea' k.enc.length ec').ownBlock = some j → f j) := hid fun j hj => by
    rw [hf]
    refine ⟨by have := HXE.out j hj; omega, fun e => HK.out.ap j (by rw [blk_map]; exact e) hj, fun e => ?_⟩
    obtain ⟨_, _, c1, q1⟩ := own_type HK.out.he hj
    obtain ⟨_, _, c2, q2⟩ := own_type HK.out.hr (k := j) (by rw [blk_map]; exact e)
    rw [q1] at q2
    cases q2
  have HFM : Hid (f mb) := hid (by
    rw [hf]
    have e1 := mp_neW HM.out HK.out.hd
    have e2 := mp_neW HM.out HK.out.hr
    exact ⟨HM.out.lt, fun e => e1 mb (by rw [blk_map]; exact e) rfl, fun e => e2 mb (by rw [blk_map]; exact e) rfl⟩)
  have HGI := hid fun o v => thG_in HMM.out o v
  have HST : Hid (ThS f w3 w0.heap.size da' ra' k.dec k.rows dc' rc' (thG (wyA k.dec)) [] w3) := hid ⟨Keep.refl _ _, HK.out.hd, HK.out.hr⟩
  have HOP := hid (opC_own HK.out.hd H1.out)
  have hq1 : ∀ h : 0 < k.dec.length, ∃ b o, da' = some ⟨b, o, none⟩ := fun h => by obtain ⟨g, e⟩ := H1.out h; exact ⟨g, 0, e⟩
  have hq2 : ∀ h : 0 < k.rows.length, ∃ b o, ra' = some ⟨b, o, none⟩ := fun h => by obtain ⟨g, e⟩ := H2.out h; exact ⟨g, 0, e⟩
  have HSEQ := hid (namedIn f w3 (3 - 1) (by omega) u3.heap.size (u3.heap.size + 1) k.dec k.rows da' ra' dc' rc' B1 B2 (HFB.out _ (by omega) (by omega)) (HFB.out _ (by omega) (by omega)) HOP.out hq1 hq2 m1 m2)
  rw [hsP] at HSEQ
  have HF4 : Hid (f u2.heap.size) := hid (HFB.out _ (by omega) (by omega))
  have HF3 : Hid (f u.heap.size) := hid (HFB.out _ (by omega) (by omega))
  have HF2 : Hid (f (w.heap.size + 1)) := hid (HF0.out _ (by omega))
  have HSS := hid (And.intro hsz (And.intro hs1 (And.intro hsO (And.intro hs2 (And.intro hsP (And.intro hs3 (And.intro hmb (And.intro m1 m2))))))))
  clear hf hq1 hq2 h1 h2 B1 B2 HDD HRR
  gi_wp2_with fail
  clear hsz hs1 hsO hs2 hsP hs3 hmb m1 m2
  refine wpIn_rangeFunc_ownH rfl (by omega) (gf := 44) (lb := #[.pointer (some ⟨u2.heap.size + 1, 0, none⟩), .pointer (some ⟨u2.heap.size + 1 + 1, 0, none⟩)]) rfl trivial cfNamed HSEQ.out KpN.trans (kpN_b HFS.out) (Below.refl _ _) (fun _ => rfl)
    (fun pre W' => ThS f w3 w0.heap.size da' ra' k.dec k.rows dc' rc' (thG (wyA k.dec)) (pre.map (fun y => y.1)) W') (fun c pre W' => False) (own_ThS HFS.out) (fun c => ownFrom_pure _ _) HST.out
    (fun z a' W' => a' = { tmps := #[.agg #[.slice da k.dec.length dc, .slice ea k.enc.length ec, .slice ra k.rows.length rc], .pointer (some ⟨w.heap.size, 0, none⟩), .pointer (some ⟨w.heap.size + 1, 0, none⟩), .pointer (some ⟨u.heap.size, 0, none⟩), .pointer (some ⟨u2.heap.size, 0, none⟩), .int .i64 z.1.1, .pointer (some z.1.2), undef, undef, .agg #[.slice da k.dec.length dc, .slice ea k.enc.length ec, .slice ra k.rows.length rc], .agg #[.slice da' k.dec.length dc', .slice ea' k.enc.length ec', .slice ra' k.rows.length rc'], .pointer (some ⟨w.heap.size, 0, none⟩), .slice da k.dec.length dc, .map (some mb), .pointer (some ⟨u.heap.size, 0, none⟩), .slice da' k.dec.length dc', .pointer (some ⟨u.heap.size, 2, none⟩), .slice ra' k.rows.length rc', .func (.func 44) #[] #[.pointer (some ⟨u2.heap.size + 1, 0, none⟩), .pointer (some ⟨u2.heap.size + 1 + 1, 0, none⟩)], .int .i64 z.1.1, .pointer (some z.1.2), undef, undef, undef, undef, undef, undef, undef, undef, undef, undef, undef, undef, undef, undef, undef, undef, undef, undef, undef, undef, undef, undef, undef], defers := [] }) (fun x a' => ownFrom_pure _ _)
    ?assign ?body ?done ?stop
  case assign =>
    rintro q pre z W' K hI hK
    dsimp only [encN] at hK ⊢
    gi_wp2
    exact hK _ _ (KeepsFrom.refl _ _) ⟨Keep.refl _ _, fun h => h⟩ hI rfl
  case body =>
    rintro q pre z a' W' hl ⟨r, hr⟩ hI rfl hlt
    obtain ⟨v, c0', hv, c1', -, -, -, -⟩ := hI.step z.2 H1.out H2.out HI1.out HI2.out HGI.out HFN.out
    have hza : z.1.2.block < W'.heap.size := World.block_lt_of_cell? _ _ c0'
    have HX : Hid (∀ X, Below W'.heap.size W' X → (thG (wyA k.dec) z.1.1 v = v → ThS f w3 w0.heap.size da' ra' k.dec k.rows dc' rc' (thG (wyA k.dec)) (pre.map (fun y => y.1) ++ [z.1]) X) ∧ ThS f w3 w0.heap.size da' ra' k.dec k.rows dc' rc' (thG (wyA k.dec)) (pre.map (fun y => y.1) ++ [z.1]) (X.setCell z.1.2 (.int .i64 (thG (wyA k.dec) z.1.1 v))) ∧ Keep f X (X.setCell z.1.2 (.int .i64 (thG (wyA k.dec) z.1.1 v))) ∧ (OpC da' k.dec X → OpC da' k.dec (X.setCell z.1.2 (.int .i64 (thG (wyA k.dec) z.1.1 v))))) := hid fun X hX => by
      have hIX : ThS f w3 w0.heap.size da' ra' k.dec k.rows dc' rc' (thG (wyA k.dec)) (pre.map (fun y => y.1)) X := ⟨kpBl hI.kp hX, own_kept hI.o1 hX, own_kept hI.o2 hX⟩
      obtain ⟨v2, e1, -, -, e2, e3, e4, e5⟩ := hIX.step z.2 H1.out H2.out HI1.out HI2.out HGI.out HFN.out
      rw [cell_below c0' hX] at e1
      cases e1
      exact ⟨e2, e3, e4, e5⟩
    have BWW := BW.out.keep hI.kp HF4.out
    have HMW := HM.out.keep hI.kp (HFM.out)
    have HLK := HMW.look2 hv
    have xb := BWW.cellF
    have zb := BWW.lt
    have c0 : W'.cell? z.1.2 = some (.int .i64 v) := c0'
    have c1 : W'.frozen? z.1.2 = false := c1'
    have hmw : mb < W'.heap.size := HMW.lt
    obtain ⟨⟨zo, za⟩, hz⟩ := z
    dsimp only at *
    obtain ⟨e1, e2, he⟩ : ∃ e1 e2, (wyA k.dec v).getD (0, 0) = (e1, e2) := ⟨_, _, rfl⟩
    rw [he] at HLK
    unfold vWy at HLK
    dsimp only at HLK
    have HL0 : (Instr.lookup 48 (.map (some mb)) (.int .i64 v) true).run Try.prog W'.drew = .ok (.tuple #[.agg #[.int .i64 e1, .int .i64 e2], .bool (wyA k.dec v).isSome]) W'.drew := HLK _ rfl
    have HL1 : (Instr.lookup 48 (.map (some mb)) (.int .i64 v) true).run Try.prog (W'.alloc (.cells #[.int .i64 0, .int .i64 0] 55)).drew = .ok (.tuple #[.agg #[.int .i64 e1, .int .i64 e2], .bool (wyA k.dec v).isSome]) (W'.alloc (.cells #[.int .i64 0, .int .i64 0] 55)).drew := HLK _ ((below_alloc _).block _ hmw)
    have HG : Hid (thG (wyA k.dec) zo v = match wyA k.dec v with | none => v | some p => if zo = 4 then p.1 else p.2) := hid rfl
    have HE := hid he
    clear HLK hI HMW BWW c0' c1' he
    obtain ⟨sb, hsb⟩ : ∃ sb, sb = (wyA k.dec v).isSome := ⟨_, rfl⟩
    rw [← hsb] at HL0 HL1
    have HSB := hid hsb
    clear hsb
    have hqX : Below W'.heap.size W' (W'.alloc (.cells #[.int .i64 e1, .int .i64 e2] 55)).drew := below_trans (below_alloc _) (below_drew1 _)
    have BX : Hid (Blk (W'.alloc (.cells #[.int .i64 e1, .int .i64 e2] 55)).drew W'.heap.size 55 #[.int .i64 e1, .int .i64 e2]) := hid ((Blk.new _ _ _).kept (below_drew1 _))
    obtain ⟨N0, NX, KX, OX⟩ := HX.out _ hqX
    have cX : ((W'.alloc (.cells #[.int .i64 e1, .int .i64 e2] 55)).drew).cell? za = some (.int .i64 v) := cell_below c0 hqX
    have fX : ((W'.alloc (.cells #[.int .i64 e1, .int .i64 e2] 55)).drew).frozen? za = false := frz_alloc c1 hza
    have HKD : Hid (KeepsFrom w3.heap.size W' (W'.alloc (.cells #[.int .i64 e1, .int .i64 e2] 55)).drew) := hid ⟨hqX.size, fun i o h1 h2 _ => by rw [hqX.block i (Array.getElem?_eq_some_iff.1 h2).1]; exact h2⟩
    have HKpD : Hid (KpN f da' k.dec W' (W'.alloc (.cells #[.int .i64 e1, .int .i64 e2] 55)).drew) := hid ⟨Keep.ofBelow hqX, fun h => h.kept hqX⟩
    have HN0 := hid N0
    have HNX := hid NX
    have HKX := hid KX
    have HOX := hid OX
    clear HX hqX N0 NX KX OX
    gi_wp2
    refine wpIn_mono (Q := OneX ⟨#[.agg #[.slice da k.dec.length dc, .slice ea k.enc.length ec, .slice ra k.rows.length rc], .pointer (some ⟨w.heap.size, 0, none⟩), .pointer (some ⟨w.heap.size + 1, 0, none⟩), .pointer (some ⟨u.heap.size, 0, none⟩), .pointer (some ⟨u2.heap.size, 0, none⟩), .int .i64 zo, .pointer (some za), .pointer (some ⟨W'.heap.size, 0, none⟩), .bool sb, .agg #[.slice da k.dec.length dc, .slice ea k.enc.length ec, .slice ra k.rows.length rc], .agg #[.slice da' k.dec.length dc', .slice ea' k.enc.length ec', .slice ra' k.rows.length rc'], .pointer (some ⟨w.heap.size, 0, none⟩), .slice da k.dec.length dc, .map (some mb), .pointer (some ⟨u.heap.size, 0, none⟩), .slice da' k.dec.length dc', .pointer (some ⟨u.heap.size, 2, none⟩), .slice ra' k.rows.length rc', .func (.func 44) #[] #[.pointer (some ⟨u2.heap.size + 1, 0, none⟩), .pointer (some ⟨u2.heap.size + 1 + 1, 0, none⟩)], .int .i64 zo, .pointer (some za), .tuple #[.agg #[.int .i64 e1, .int .i64 e2], .bool sb], .map (some mb), .pointer (some za), .pointer (some za), .int .i64 v, .tuple #[.agg #[.int .i64 e1, .int .i64 e2], .bool sb], .agg #[.int .i64 e1, .int .i64 e2], .bool sb, undef, undef, undef, undef, undef, undef, undef, undef, undef, undef, undef, undef, undef, undef, undef], []⟩ ((W'.alloc (.cells #[.int .i64 e1, .int .i64 e2] 55)).drew)) ?_ (oneX_mono ?_)
    · clear BX cX fX HKD HKpD HN0 HNX HKX HOX HG HE HSB
      gi_region_with (fail)
      all_goals exact ⟨rfl, rfl⟩
    · have hx1 := BX.out.cellF
      have hx2 := BX.out.lt
      have hzx : za.block < ((W'.alloc (.cells #[.int .i64 e1, .int .i64 e2] 55)).drew).heap.size := World.block_lt_of_cell? _ _ cX
      clear HL0 HL1 c0 c1 xb zb hza BX
      generalize (W'.alloc (.cells #[.int .i64 e1, .int .i64 e2] 55)).drew = X at *
      generalize wyA k.dec v = mv at *
      cases mv with
      | none =>
        have esb : sb = false := HSB.out
        subst esb
        have HF := hid (HN0.out HG.out)
        clear HN0 HNX HKX HOX
        gi_wp2
        exact ⟨HKD.out, HKpD.out, by show ThS _ _ _ _ _ _ _ _ _ _ (List.map _ (_ ++ _)) _; rw [List.map_append]; exact HF.out⟩
      | some p =>
        have esb : sb = true := HSB.out
        subst esb
        obtain ⟨p1, p2⟩ := p
        have ep := HE.out
        dsimp only [Option.getD] at ep
        cases ep
        by_cases ho : zo = 4
        · subst ho
          have eg : thG (wyA k.dec) 4 v = e1 := by rw [HG.out]; rfl
          rw [eg] at HNX HKX HOX
          clear HN0 HG HE HSB eg
          gi_wp2
          exact ⟨HKD.out.trans ((KeepsOthers.setCell _ _ _).from _), KpN.trans HKpD.out ⟨HKX.out, HOX.out⟩, by show ThS _ _ _ _ _ _ _ _ _ _ (List.map _ (_ ++ _)) _; rw [List.map_append]; exact HNX.out⟩
        · have ko : (zo == 4) = false := by simpa using ho
          have eg : thG (wyA k.dec) zo v = e2 := by rw [HG.out]; dsimp only; rw [if_neg ho]
          rw [eg] at HNX HKX HOX
          clear HN0 HG HE HSB eg ho
          gi_wp2
          exact ⟨HKD.out.trans ((KeepsOthers.setCell _ _ _).from _), KpN.trans HKpD.out ⟨HKX.out, HOX.out⟩, by show ThS _ _ _ _ _ _ _ _ _ _ (List.map _ (_ ++ _)) _; rw [List.map_append]; exact HNX.out⟩
  case done =>
    rintro D xs W' hD hS hI hK
    rw [hS] at hI
    obtain ⟨hsz, hs1, hsO, hs2, hsP, hs3, hmb, m1, m2⟩ := HSS.out
    obtain ⟨o1, o2⟩ := hI.done H1.out H2.out
    have oe := own_keep HK.out.he (fun j hj => HFE.out j hj) hI.kp
    have BO2 := hid (BO.out.keep hI.kp HF3.out)
    have BB2 := hid (BB.out.keep hI.kp HF2.out)
    have HBW : Hid (Below w.heap.size w W') := hid (by
      have e1 := HBU.out
      have e2 := hI.kp
      exact ⟨e2.os.trans e1.os, e2.tape.trans e1.tape, e2.output.trans e1.output, Nat.le_trans e1.size e2.size, fun j hj => (e2.block j (by omega) (HF0.out j (by omega))).trans (e1.block j hj)⟩)
    have HO1 := hid o1
    have HO2 := hid o2
    have HOE := hid oe
    have HKD := hid hK
    have hDs : Hid (w3.heap.size ≤ D) := hid hD
    have HAP := hid HK.out.ap
    have x3 := BO2.out.cellF
    have z3 := BO2.out.lt
    have x2 := BB2.out.cellF
    have y2 := BB2.out.frz
    have z2 := BB2.out.lt
    have hne : w.heap.size + 1 ≠ u.heap.size := by omega
    have HSZ := hid (And.intro hsz (And.intro hs1 (And.intro hsO (And.intro hs2 (And.intro hsP hs3)))))
    have hDW : D < W'.heap.size := (Array.getElem?_eq_some_iff.1 hK).1
    clear hI hS o1 o2 oe hsz hs1 hsO hs2 hsP hs3 hmb m1 m2 hK hD
    gi_wp2
    obtain ⟨hsz, hs1, hsO, hs2, hsP, hs3⟩ := HSZ.out
    have hk3 : Keep (fun j => j ≠ w.heap.size + 1) W' (((W'.setCell ⟨w.heap.size + 1, 0, none⟩ (.slice da' k.dec.length dc')).setCell ⟨w.heap.size + 1, 1, none⟩ (.slice ea' k.enc.length ec')).setCell ⟨w.heap.size + 1, 2, none⟩ (.slice ra' k.rows.length rc')) := keepO3 (fun h => h rfl)
    have hDne : D ≠ w.heap.size + 1 := by have := hDs.out; omega
    have hDF : ((((W'.setCell ⟨w.heap.size + 1, 0, none⟩ (.slice da' k.dec.length dc')).setCell ⟨w.heap.size + 1, 1, none⟩ (.slice ea' k.enc.length ec')).setCell ⟨w.heap.size + 1, 2, none⟩ (.slice ra' k.rows.length rc'))).heap[D]? = some (.deferred (some [])) := (hk3.block D hDW hDne).trans HKD.out
    have hkp := keep_put (((W'.setCell ⟨w.heap.size + 1, 0, none⟩ (.slice da' k.dec.length dc')).setCell ⟨w.heap.size + 1, 1, none⟩ (.slice ea' k.enc.length ec')).setCell ⟨w.heap.size + 1, 2, none⟩ (.slice ra' k.rows.length rc')) D (.deferred none)
    have BF : Blk (((W'.setCell ⟨w.heap.size + 1, 0, none⟩ (.slice da' k.dec.length dc')).setCell ⟨w.heap.size + 1, 1, none⟩ (.slice ea' k.enc.length ec')).setCell ⟨w.heap.size + 1, 2, none⟩ (.slice ra' k.rows.length rc')) (w.heap.size + 1) 25 #[.slice da' k.dec.length dc', .slice ea' k.enc.length ec', .slice ra' k.rows.length rc'] := ((BB2.out.set 0 _).set 1 _).set 2 _
    have BF2 := BF.keep hkp (fun e => hDne e.symm)
    have xf := BF2.cellF
    have hkk : Keep (fun j => j ≠ w.heap.size + 1 ∧ j ≠ D) W' (((((W'.setCell ⟨w.heap.size + 1, 0, none⟩ (.slice da' k.dec.length dc')).setCell ⟨w.heap.size + 1, 1, none⟩ (.slice ea' k.enc.length ec')).setCell ⟨w.heap.size + 1, 2, none⟩ (.slice ra' k.rows.length rc'))).putObj D (.deferred none)) := (hk3.weak (fun j hj => hj.1)).trans (hkp.weak (fun j hj => hj.2))
    have hbf : Below w.heap.size w (((((W'.setCell ⟨w.heap.size + 1, 0, none⟩ (.slice da' k.dec.length dc')).setCell ⟨w.heap.size + 1, 1, none⟩ (.slice ea' k.enc.length ec')).setCell ⟨w.heap.size + 1, 2, none⟩ (.slice ra' k.rows.length rc'))).putObj D (.deferred none)) := by
      have e1 := HBW.out
      exact ⟨hkk.os.trans e1.os, hkk.tape.trans e1.tape, hkk.output.trans e1.output, Nat.le_trans e1.size hkk.size, fun j hj => (hkk.block j (by have := e1.size; omega) ⟨by omega, by have := hDs.out; omega⟩).trans (e1.block j hj)⟩
    have hown : ∀ {ty sz n : Nat} {v : Value} {fl : List Value}, W'.ownsRow w0.heap.size ty sz v n fl → (((((W'.setCell ⟨w.heap.size + 1, 0, none⟩ (.slice da' k.dec.length dc')).setCell ⟨w.heap.size + 1, 1, none⟩ (.slice ea' k.enc.length ec')).setCell ⟨w.heap.size + 1, 2, none⟩ (.slice ra' k.rows.length rc'))).putObj D (.deferred none)).ownsRow w0.heap.size ty sz v n fl := fun {ty sz n v fl} ho => own_keep ho (fun j hj => by
      have q := own_type ho hj
      refine ⟨by omega, fun e => ?_⟩
      obtain ⟨_, _, cur, q2⟩ := q
      rw [e, HKD.out] at q2
      cases q2) hkk
    refine leave_one 3 hDF ⟨.agg #[.slice da' k.dec.length dc', .slice ea' k.enc.length ec', .slice ra' k.rows.length rc'], by simp [results, Try.results11, go_sem, xf], ?_⟩
    rw [HT.out]
    have l1 : (thB k).dec.length = k.dec.length := by simp [thB]
    have l2 : (thB k).rows.length = k.rows.length := by simp [thB]
    refine ⟨da', dc', ea', ec', ra', rc', by rw [l1, l2]; rfl, ⟨?_, ?_, ?_, ?_⟩, hbf⟩
    · rw [l1]
      exact own_mono (hown HO1.out) (by omega)
    · exact own_mono (hown HOE.out) (by omega)
    · rw [l2]
      exact own_mono (hown HO2.out) (by omega)
    · rw [l1]
      exact HAP.out
  case stop =>
    rintro D c pre W' hD hSp hF hK
    exact hF.elim
end Go.Proofs.Ytliohglpbmpbhaa
namespace Go.Proofs.Ytliohglpbmpbhaa
open Go.RowKit Go.Shelf
set_option maxRecDepth 1000000
set_option linter.unusedVariables false
set_option linter.unusedSimpArgs false
set_option maxHeartbeats 3000000
def boB (k : BK) : BK := trB (thB (fuB (tbB k)))
theorem passesT (w : World) : Calls Try.prog 29 #[] w fun e w' => e = .returned (.slice (some ⟨w.heap.size, 0, none⟩) 4 4) ∧ w' = w.alloc (.cells #[.func (.func 13) #[] #[], .func (.func 12) #[] #[], .func (.func 11) #[] #[], .func (.func 10) #[] #[]] 37) := by
  go_enter Try.func29, Try.ntmps29
  go_wp2
  go_ret
  exact ⟨rfl, rfl⟩
theorem chN_in {l : List IN} (hl : ∀ x ∈ l, inI x) (hn : l.length ≤ 1048576) : ∀ (n k : Nat) (r : List LN), (∀ x ∈ r, lnI x) → r.length + n ≤ 1048577 → (k : Int) ≤ 9223372036854775807 → (∀ x ∈ (chN l n k r).1, lnI x) ∧ (chN l n k r).1.length ≤ r.length + n ∧ ((chN l n k r).2 : Int) ≤ 9223372036854775807 := by
  intro n
  induction n with
  | zero => intro k r h1 h2 h3; exact ⟨h1, Nat.le_refl _, h3⟩
  | succ n ih =>
    intro k r h1 h2 h3
    unfold chN
    split
    · exact ⟨h1, by dsimp only; omega, h3⟩
    · rename_i x hx
      have hk : k < l.length := (List.getElem?_eq_some_iff.1 hx).1
      have hxi := hl x (List.mem_of_getElem? hx)
      have h4 : ∀ y ∈ r ++ [(⟨x.a, (k : Int) + 1⟩ : LN)], lnI y := fun y hy => by
        rcases List.mem_append.1 hy with h | h
        · exact h1 y h
        · simp at h; subst h; exact ⟨hxi.2.1, by unfold oI64; dsimp only; omega⟩
      split
      · split
        · exact ⟨h4, by simp, h3⟩
        · have hb := hxi.2.2.1
          unfold oI64 at hb
          have q := ih x.b.toNat (r ++ [⟨x.a, (k : Int) + 1⟩]) h4 (by simp; omega) (by omega)
          refine ⟨q.1, ?_, q.2.2⟩
          have := q.2.1
          simp at this
          omega
      · exact ⟨h1, by dsimp only; omega, h3⟩
theorem chA_in {l : List IN} (hl : ∀ x ∈ l, inI x) (hn : l.length ≤ 1048576) : (∀ x ∈ (chA l).1, lnI x) ∧ (chA l).1.length ≤ 1048577 ∧ oI64 ((chA l).2 : Int) := by
  have q := chN_in hl hn (l.length + 1) 1 [] (fun x hx => by simp at hx) (by simp; omega) (by omega)
  refine ⟨q.1, by have := q.2.1; unfold chA; simp at this; omega, by have := q.2.2; unfold oI64 chA; omega⟩
theorem tbB_in {k : BK} (h : kI k) (hs : bkSm k) : kI (tbB k) := by
  unfold tbB
  split
  · have q := chA_in h.d hs.1
    refine ⟨fun x hx => ?_, h.e, q.1⟩
    rcases List.mem_or_eq_of_mem_set hx with h1 | h1
    · exact h.d x h1
    · subst h1
      exact ⟨by unfold oI64; dsimp only; omega, q.2.2, by unfold oI64; dsimp only; omega, by unfold oI64; dsimp only; omega, by unfold oI64; dsimp only; omega⟩
  · exact h
theorem tbB_sm {k : BK} (hs : bkSm k) (hok : tbC k → RiseT (chA k.dec).1 ∧ (chA k.dec).1.length < 20) : bkSm (tbB k) := by
  unfold tbB
  split
  · rename_i hc
    exact ⟨by show (k.dec.set _ _).length ≤ _; rw [List.length_set]; exact hs.1, hs.2.1, by have := (hok hc).2; dsimp only; omega⟩
  · exact hs
/-- What a block is behind so many passes. -/
def stK (k : BK) : Nat → BK
  | 0 => k
  | 1 => tbB k
  | 2 => fuB (tbB k)
  | 3 => thB (fuB (tbB k))
  | _ => boB k
theorem blockT (w : World) (k : BK) (da ea ra : Option Addr) (dc ec rc : Nat) (h : BkR w k (.slice da k.dec.length dc) (.slice ea k.enc.length ec) (.slice ra k.rows.length rc)) (hs : bkSm k) (hI : kI k) (hok : tbC k → RiseT (chA k.dec).1 ∧ (chA k.dec).1.length < 20) : Calls Try.prog 15 #[.agg #[.slice da k.dec.length dc, .slice ea k.enc.length ec, .slice ra k.rows.length rc]] w (BlkA w (boB k)) := by
  have HH := hid h
  have HS1 := hid (And.intro hs (And.intro (tbB_sm hs hok) (And.intro (fuB_sm (tbB_sm hs hok)) (thB_sm (fuB_sm (tbB_sm hs hok))))))
  have HI1 := hid (And.intro hI (And.intro (tbB_in hI hs) (And.intro (fuB_in (tbB_in hI hs) (tbB_sm hs hok)) (thB_in (fuB_in (tbB_in hI hs) (tbB_sm hs hok)) (fuB_sm (tbB_sm hs hok))))))
  have HOK := hid hok
  have HP := hid fun W => passesT W
  clear h hs hI hok
  go_enter Try.func15, Try.ntmps15
  go_wp2_with fail
  have HBB : Hid (Below w.heap.size w ((w.alloc (.cells #[.slice da k.dec.length dc, .slice ea k.enc.length ec, .slice ra k.rows.length rc] 25)).alloc (.cells #[.slice none 0 0, .slice none 0 0, .slice none 0 0] 25))) := hid (by exact blBy)
  have hsz : ((w.alloc (.cells #[.slice da k.dec.length dc, .slice ea k.enc.length ec, .slice ra k.rows.length rc] 25)).alloc (.cells #[.slice none 0 0, .slice none 0 0, .slice none 0 0] 25)).heap.size = w.heap.size + 2 := by simp
  have BB : Hid (Blk ((w.alloc (.cells #[.slice da k.dec.length dc, .slice ea k.enc.length ec, .slice ra k.rows.length rc] 25)).alloc (.cells #[.slice none 0 0, .slice none 0 0, .slice none 0 0] 25)) (w.heap.size + 1) 25 #[.slice none 0 0, .slice none 0 0, .slice none 0 0]) := hid (Blk.newAt (by simp))
  have BA : Hid (Blk ((w.alloc (.cells #[.slice da k.dec.length dc, .slice ea k.enc.length ec, .slice ra k.rows.length rc] 25)).alloc (.cells #[.slice none 0 0, .slice none 0 0, .slice none 0 0] 25)) w.heap.size 25 #[.slice da k.dec.length dc, .slice ea k.enc.length ec, .slice ra k.rows.length rc]) := hid ((Blk.new _ _ _).kept (below_alloc _))
  generalize ((w.alloc (.cells #[.slice da k.dec.length dc, .slice ea k.enc.length ec, .slice ra k.rows.length rc] 25)).alloc (.cells #[.slice none 0 0, .slice none 0 0, .slice none 0 0] 25)) = w0 at *
  refine (HP.out _).mono ?_
  rintro e w1 ⟨rfl, hw1⟩
  have hb1 : Below w0.heap.size w0 w1 := by rw [hw1]; exact below_alloc _
  have BF : Hid (Blk w1 w0.heap.size 37 #[.func (.func 13) #[] #[], .func (.func 12) #[] #[], .func (.func 11) #[] #[], .func (.func 10) #[] #[]]) := hid (by rw [hw1]; exact Blk.new _ _ _)
  replace HBB := hid (below_trans HBB.out hb1)
  replace BB := hid (BB.out.kept hb1)
  replace BA := hid (BA.out.kept hb1)
  clear hw1 hb1
  have HSZ := hid hsz
  obtain ⟨pf, hpf⟩ : ∃ pf, pf = w0.heap.size := ⟨_, rfl⟩
  have HPF : Hid (w.heap.size + 2 = pf) := hid (by omega)
  rw [← hpf] at BF ⊢
  clear hsz hpf HSZ
  go_wp2_with fail
  go_loopw [7] (fun r wr => ∃ (i : Nat) (da : Option Addr) (dc : Nat) (ea : Option Addr) (ec : Nat) (ra : Option Addr) (rc : Nat), r = .int .i64 i ∧ i ≤ 4 ∧ Hid (Blk wr w.heap.size 25 #[.slice da (stK k i).dec.length dc, .slice ea (stK k i).enc.length ec, .slice ra (stK k i).rows.length rc]) ∧ Hid (BkR wr (stK k i) (.slice da (stK k i).dec.length dc) (.slice ea (stK k i).enc.length ec) (.slice ra (stK k i).rows.length rc)) ∧ Hid (i = 0 ∨ BkO wr (w.heap.size + 2) (stK k i) (.slice da (stK k i).dec.length dc) (.slice ea (stK k i).enc.length ec) (.slice ra (stK k i).rows.length rc)) ∧ Hid (Blk wr (w.heap.size + 1) 25 #[.slice none 0 0, .slice none 0 0, .slice none 0 0]) ∧ Hid (Blk wr pf 37 #[.func (.func 13) #[] #[], .func (.func 12) #[] #[], .func (.func 11) #[] #[], .func (.func 10) #[] #[]]) ∧ Hid (Below w.heap.size w wr)) (fun r _ => 4 - (intOf r).toNat)
  case atStart => exact ⟨0, da, dc, ea, ec, ra, rc, rfl, by omega, BA, hid (HH.out.kept HBB.out), hid (.inl rfl), BB, BF, HBB⟩
  case round =>
    clear BA BB BF HBB HH
    obtain ⟨i, da, dc, ea, ec, ra, rc, rfl, hi, BA, HR, HO, BB, BF, hb⟩ := hrel
    have x1 := BA.out.cellF
    have y1 := BA.out.frz
    have z1 := BA.out.lt
    have xf := BF.out.cellF
    have zf := BF.out.lt
    have x2 := BB.out.cellF
    have y2 := BB.out.frz
    have z2 := BB.out.lt
    have hi5 : i = 0 ∨ i = 1 ∨ i = 2 ∨ i = 3 ∨ i = 4 := by omega
    rcases hi5 with rfl | rfl | rfl | rfl | rfl
    · have HC := hid (tablesT wr (stK k 0) da ea ra dc ec rc HR.out HS1.out.1 HOK.out)
      clear HO HS1 HI1 HOK
      go_wp2_with fail
      refine HC.out.mono ?_
      rintro e u ⟨da', dc', ea', ec', ra', rc', rfl, hbk, hbu⟩
      change BkO u wr.heap.size (stK k 1) (.slice da' (stK k 1).dec.length dc') (.slice ea' (stK k 1).enc.length ec') (.slice ra' (stK k 1).rows.length rc') at hbk
      have HBU := hid (below_trans hb.out hbu)
      have HK := hid hbk
      have BA2 := hid (BA.out.kept hbu)
      have BB2 := hid (BB.out.kept hbu)
      have BF2 := hid (BF.out.kept hbu)
      have hsw := hb.out.size
      have HZF := hid zf
      clear hbk hbu x1 y1 z1 xf x2 y2 z2 HC
      have x1 := BA2.out.cellF
      have y1 := BA2.out.frz
      have z1 := BA2.out.lt
      go_wp2
      have hne1 : w.heap.size ≠ w.heap.size + 1 := by omega
      have hk3 : Keep (fun j => j ≠ w.heap.size) u (((u.setCell ⟨w.heap.size, 0, none⟩ (.slice da' (stK k 1).dec.length dc')).setCell ⟨w.heap.size, 1, none⟩ (.slice ea' (stK k 1).enc.length ec')).setCell ⟨w.heap.size, 2, none⟩ (.slice ra' (stK k 1).rows.length rc')) := keepO3 (fun h => h rfl)
      have hkk := HK.out.set3 (p := w.heap.size) (base' := w.heap.size + 2) (a := .slice da' (stK k 1).dec.length dc') (b := .slice ea' (stK k 1).enc.length ec') (c := .slice ra' (stK k 1).rows.length rc') (by have := HPF.out; have := HZF.out; omega) (by have := HPF.out; have := HZF.out; omega)
      exact ⟨⟨1, da', dc', ea', ec', ra', rc', by simp, by omega, hid (((BA2.out.set 0 _).set 1 _).set 2 _), hid hkk.row, hid (.inr hkk), hid (BB2.out.keep hk3 (by show w.heap.size + 1 ≠ w.heap.size; omega)), hid (BF2.out.keep hk3 (by have := HPF.out; show pf ≠ w.heap.size; omega)), hid (below_set3 HBU.out (Nat.le_refl _))⟩, by simp [intOf]⟩
    · have HC := hid (fuseT wr (stK k 1) da ea ra dc ec rc HR.out HS1.out.2.1 HI1.out.2.1)
      clear HO HS1 HI1 HOK
      go_wp2_with fail
      refine HC.out.mono ?_
      rintro e u ⟨da', dc', ea', ec', ra', rc', rfl, hbk, hbu⟩
      change BkO u wr.heap.size (stK k 2) (.slice da' (stK k 2).dec.length dc') (.slice ea' (stK k 2).enc.length ec') (.slice ra' (stK k 2).rows.length rc') at hbk
      have HBU := hid (below_trans hb.out hbu)
      have HK := hid hbk
      have BA2 := hid (BA.out.kept hbu)
      have BB2 := hid (BB.out.kept hbu)
      have BF2 := hid (BF.out.kept hbu)
      have hsw := hb.out.size
      have HZF := hid zf
      clear hbk hbu x1 y1 z1 xf x2 y2 z2 HC
      have x1 := BA2.out.cellF
      have y1 := BA2.out.frz
      have z1 := BA2.out.lt
      go_wp2
      have hne1 : w.heap.size ≠ w.heap.size + 1 := by omega
      have hk3 : Keep (fun j => j ≠ w.heap.size) u (((u.setCell ⟨w.heap.size, 0, none⟩ (.slice da' (stK k 2).dec.length dc')).setCell ⟨w.heap.size, 1, none⟩ (.slice ea' (stK k 2).enc.length ec')).setCell ⟨w.heap.size, 2, none⟩ (.slice ra' (stK k 2).rows.length rc')) := keepO3 (fun h => h rfl)
      have hkk := HK.out.set3 (p := w.heap.size) (base' := w.heap.size + 2) (a := .slice da' (stK k 2).dec.length dc') (b := .slice ea' (stK k 2).enc.length ec') (c := .slice ra' (stK k 2).rows.length rc') (by have := HPF.out; have := HZF.out; omega) (by have := HPF.out; have := HZF.out; omega)
      exact ⟨⟨2, da', dc', ea', ec', ra', rc', by simp, by omega, hid (((BA2.out.set 0 _).set 1 _).set 2 _), hid hkk.row, hid (.inr hkk), hid (BB2.out.keep hk3 (by show w.heap.size + 1 ≠ w.heap.size; omega)), hid (BF2.out.keep hk3 (by have := HPF.out; show pf ≠ w.heap.size; omega)), hid (below_set3 HBU.out (Nat.le_refl _))⟩, by simp [intOf]⟩
    · have HC := hid (threadT wr (stK k 2) da ea ra dc ec rc HR.out HS1.out.2.2.1 HI1.out.2.2.1)
      clear HO HS1 HI1 HOK
      go_wp2_with fail
      refine HC.out.mono ?_
      rintro e u ⟨da', dc', ea', ec', ra', rc', rfl, hbk, hbu⟩
      change BkO u wr.heap.size (stK k 3) (.slice da' (stK k 3).dec.length dc') (.slice ea' (stK k 3).enc.length ec') (.slice ra' (stK k 3).rows.length rc') at hbk
      have HBU := hid (below_trans hb.out hbu)
      have HK := hid hbk
      have BA2 := hid (BA.out.kept hbu)
      have BB2 := hid (BB.out.kept hbu)
      have BF2 := hid (BF.out.kept hbu)
      have hsw := hb.out.size
      have HZF := hid zf
      clear hbk hbu x1 y1 z1 xf x2 y2 z2 HC
      have x1 := BA2.out.cellF
      have y1 := BA2.out.frz
      have z1 := BA2.out.lt
      go_wp2
      have hne1 : w.heap.size ≠ w.heap.size + 1 := by omega
      have hk3 : Keep (fun j => j ≠ w.heap.size) u (((u.setCell ⟨w.heap.size, 0, none⟩ (.slice da' (stK k 3).dec.length dc')).setCell ⟨w.heap.size, 1, none⟩ (.slice ea' (stK k 3).enc.length ec')).setCell ⟨w.heap.size, 2, none⟩ (.slice ra' (stK k 3).rows.length rc')) := keepO3 (fun h => h rfl)
      have hkk := HK.out.set3 (p := w.heap.size) (base' := w.heap.size + 2) (a := .slice da' (stK k 3).dec.length dc') (b := .slice ea' (stK k 3).enc.length ec') (c := .slice ra' (stK k 3).rows.length rc') (by have := HPF.out; have := HZF.out; omega) (by have := HPF.out; have := HZF.out; omega)
      exact ⟨⟨3, da', dc', ea', ec', ra', rc', by simp, by omega, hid (((BA2.out.set 0 _).set 1 _).set 2 _), hid hkk.row, hid (.inr hkk), hid (BB2.out.keep hk3 (by show w.heap.size + 1 ≠ w.heap.size; omega)), hid (BF2.out.keep hk3 (by have := HPF.out; show pf ≠ w.heap.size; omega)), hid (below_set3 HBU.out (Nat.le_refl _))⟩, by simp [intOf]⟩
    · have HC := hid (trimT wr (stK k 3) da ea ra dc ec rc HR.out HS1.out.2.2.2 HI1.out.2.2.2)
      clear HO HS1 HI1 HOK
      go_wp2_with fail
      refine HC.out.mono ?_
      rintro e u ⟨da', dc', ea', ec', ra', rc', rfl, hbk, hbu⟩
      change BkO u wr.heap.size (stK k 4) (.slice da' (stK k 4).dec.length dc') (.slice ea' (stK k 4).enc.length ec') (.slice ra' (stK k 4).rows.length rc') at hbk
      have HBU := hid (below_trans hb.out hbu)
      have HK := hid hbk
      have BA2 := hid (BA.out.kept hbu)
      have BB2 := hid (BB.out.kept hbu)
      have BF2 := hid (BF.out.kept hbu)
      have hsw := hb.out.size
      have HZF := hid zf
      clear hbk hbu x1 y1 z1 xf x2 y2 z2 HC
      have x1 := BA2.out.cellF
      have y1 := BA2.out.frz
      have z1 := BA2.out.lt
      go_wp2
      have hne1 : w.heap.size ≠ w.heap.size + 1 := by omega
      have hk3 : Keep (fun j => j ≠ w.heap.size) u (((u.setCell ⟨w.heap.size, 0, none⟩ (.slice da' (stK k 4).dec.length dc')).setCell ⟨w.heap.size, 1, none⟩ (.slice ea' (stK k 4).enc.length ec')).setCell ⟨w.heap.size, 2, none⟩ (.slice ra' (stK k 4).rows.length rc')) := keepO3 (fun h => h rfl)
      have hkk := HK.out.set3 (p := w.heap.size) (base' := w.heap.size + 2) (a := .slice da' (stK k 4).dec.length dc') (b := .slice ea' (stK k 4).enc.length ec') (c := .slice ra' (stK k 4).rows.length rc') (by have := HPF.out; have := HZF.out; omega) (by have := HPF.out; have := HZF.out; omega)
      exact ⟨⟨4, da', dc', ea', ec', ra', rc', by simp, by omega, hid (((BA2.out.set 0 _).set 1 _).set 2 _), hid hkk.row, hid (.inr hkk), hid (BB2.out.keep hk3 (by show w.heap.size + 1 ≠ w.heap.size; omega)), hid (BF2.out.keep hk3 (by have := HPF.out; show pf ≠ w.heap.size; omega)), hid (below_set3 HBU.out (Nat.le_refl _))⟩, by simp [intOf]⟩
    · have HK := hid (HO.out.resolve_left (by omega))
      clear HO HS1 HI1 HOK HR
      go_wp2
      exact bodyPost_ret (v := .agg #[.slice da (stK k 4).dec.length dc, .slice ea (stK k 4).enc.length ec, .slice ra (stK k 4).rows.length rc]) (by simp [results, Try.results15, go_sem, x2]) rfl ⟨da, dc, ea, ec, ra, rc, rfl, HK.out.set3 (p := w.heap.size + 1) (by omega) (by omega), below_set3 hb.out (by omega)⟩
end Go.Proofs.Ytliohglpbmpbhaa
namespace Go.Proofs.Ytliohglpbmpbhaa
open Go.RowKit
set_option maxRecDepth 1000000
set_option linter.unusedVariables false
set_option linter.unusedSimpArgs false
set_option maxHeartbeats 1000000
end Go.Proofs.Ytliohglpbmpbhaa
namespace Go.Proofs.Ytliohglpbmpbhaa
open Go.RowKit
set_option maxRecDepth 1000000
set_option linter.unusedVariables false
set_option linter.unusedSimpArgs false
set_option maxHeartbeats 1000000
/-- A block and the values of its three lists. -/
structure BV where
  k : BK
  d : Value
  e : Value
  r : Value
def cBV (x : BV) : List Value := [x.d, x.e, x.r]
structure LwO (w : World) (base : Nat) (v : Value) (xs : List BV) : Prop where
  row : w.ownsRow base 25 3 v xs.length (xs.flatMap cBV)
  el : ∀ x ∈ xs, BkO w base x.k x.d x.e x.r
theorem LwO.kept {w w' : World} {base : Nat} {v : Value} {xs : List BV} (h : LwO w base v xs) (g : Below w.heap.size w w') : LwO w' base v xs := ⟨own_kept h.row g, fun x hx => (h.el x hx).kept g⟩
theorem Try.infoPB : (Try.prog.info? 25).map (fun i => (i.zero, i.size, i.bytes)) = some (some (.agg #[.slice none 0 0, .slice none 0 0, .slice none 0 0]), 3, 72) := by kernel_rfl
/-- One block more. -/
theorem LwO.push {w : World} {base : Nat} {v : Value} {xs : List BV} (h : LwO w base v xs) (hb : base ≤ w.heap.size) (hn : xs.length ≤ 4000000) (k : BK) (da ea ra : Option Addr) (n1 dc n2 ec n3 rc : Nat) (ho : BkO w base k (.slice da n1 dc) (.slice ea n2 ec) (.slice ra n3 rc)) :
    ∃ a c w', Hid ((Builtin.append_ #[29, 29] 29 #[v, .slice (some ⟨w.heap.size, 0, none⟩) 1 1]).run Try.prog (w.alloc (.cells #[.slice da n1 dc, .slice ea n2 ec, .slice ra n3 rc] 25)) = .ok (.slice a (xs.length + 1) c) w') ∧ Hid (LwO w' base (.slice a (xs.length + 1) c) (xs ++ [⟨k, .slice da n1 dc, .slice ea n2 ec, .slice ra n3 rc⟩])) ∧ Hid (Grow w w' v (.slice a (xs.length + 1) c)) := by
  obtain ⟨v', w', h1, h2, h3⟩ := append_st 25 29 3 72 (.agg #[.slice none 0 0, .slice none 0 0, .slice none 0 0]) Try.underlying29 Try.infoPB rfl (by decide) (by decide) base v xs.length (xs.flatMap cBV) w #[.slice da n1 dc, .slice ea n2 ec, .slice ra n3 rc] rfl (fun u hu => by simp at hu; rcases hu with rfl | rfl | rfl <;> rfl) h.row hb hn
  obtain ⟨a, c, rfl⟩ := own_shape h2
  have hk : ∀ {k : BK} {d e r : Value}, BkO w base k d e r → BkO w' base k d e r := fun q => ⟨grow_own h3 h.row q.hd (by decide), grow_own h3 h.row q.he (by decide), grow_own h3 h.row q.hr (by decide), q.ap⟩
  refine ⟨a, c, w', hid h1, hid ⟨by rw [List.flatMap_append, List.length_append]; exact h2, fun x hx => ?_⟩, hid h3⟩
  rcases List.mem_append.1 hx with hx | hx
  · exact hk (h.el x hx)
  · simp at hx
    subst hx
    exact hk ho
end Go.Proofs.Ytliohglpbmpbhaa
namespace Go.Proofs.Ytliohglpbmpbhaa
open Go.RowKit
set_option maxRecDepth 1000000
set_option linter.unusedVariables false
set_option linter.unusedSimpArgs false
set_option maxHeartbeats 1000000
/-- A program, in memory. -/
structure PgR (w : World) (v : Value) (bs : List BV) : Prop where
  row : RowS w AnyZ 3 v bs.length (bs.flatMap cBV)
  el : ∀ x ∈ bs, BkR w x.k x.d x.e x.r
theorem PgR.kept {w w' : World} {v : Value} {bs : List BV} (h : PgR w v bs) (g : Below w.heap.size w w') : PgR w' v bs := ⟨h.row.kept g, fun x hx => (h.el x hx).kept g⟩
theorem LwO.prog {w : World} {base : Nat} {v : Value} {xs : List BV} (h : LwO w base v xs) : PgR w v xs := ⟨own_row h.row (fun _ _ => trivial), fun x hx => (h.el x hx).row⟩
theorem isSingleT (w : World) (k : Int) (h : 1 ≤ k ∧ k ≤ 16) : Calls Try.prog 85 #[.int .i64 k] w fun e w' => e = .returned (.bool true) ∧ w' = w := by
  have h1 : (1 ≤ k) = True := eq_true h.1
  have h2 : (k ≤ 16) = True := eq_true h.2
  go_enter Try.func85, Try.ntmps85
  go_wp2
  go_ret
  exact ⟨rfl, rfl⟩
theorem isFieldT (w : World) (k : Int) (h : 1 ≤ k ∧ k ≤ 536870911) : Calls Try.prog 87 #[.int .i64 k] w fun e w' => e = .returned (.bool true) ∧ w' = w := by
  have h1 : (1 ≤ k) = True := eq_true h.1
  have h2 : (k ≤ 536870911) = True := eq_true h.2
  go_enter Try.func87, Try.ntmps87
  go_wp2
  go_ret
  exact ⟨rfl, rfl⟩
/-- A tag of a field. -/
structure TagOk (t : Int) (n k : Int) : Prop where
  eq : t = tagV n k
  num : 1 ≤ n ∧ n ≤ 536870911
  kind : k = 0 ∨ k = 1 ∨ k = 2 ∨ k = 5
theorem i64_and7 (n : Int) : bits .and .i64 n 7 = n % 8 := by
  have h7 : (BitVec.ofInt 64 7).toNat = 2 ^ 3 - 1 := by decide
  have key : (BitVec.ofInt 64 n &&& BitVec.ofInt 64 7).toNat = (n % ((2 ^ 64 : Nat) : Int)).toNat % 2 ^ 3 := by
    rw [BitVec.toNat_and, BitVec.toNat_ofInt, h7, Nat.and_two_pow_sub_one_eq_mod]
  show IntKind.i64.wrap ((BitVec.ofInt 64 n &&& BitVec.ofInt 64 7).toNat : Nat) = n % 8
  rw [key, IntKind.wrap_i64]
  omega
theorem isTagT (w : World) (t n k : Int) (h : TagOk t n k) : Calls Try.prog 72 #[.int .i64 t] w fun e w' => e = .returned (.bool true) ∧ w' = w := by
  obtain ⟨e, hn, hk⟩ := h
  have h1 : bits .and .i64 t 7 = k := by rw [i64_and7, e]; unfold tagV; omega
  have h2 : t / 8 = n := by rw [e]; unfold tagV; omega
  have h3 : (1 ≤ n) = True := eq_true hn.1
  have h4 : (n ≤ 536870911) = True := eq_true hn.2
  clear e hn
  rcases hk with rfl | rfl | rfl | rfl
  all_goals
    go_enter Try.func72, Try.ntmps72
    go_wp2
    go_ret
    exact ⟨rfl, rfl⟩
theorem stepL (w : World) (op : Int) (ns : List Int) (hl : ns.length ≤ 4) (b : Nat) (hB : Blk w b 3 (ints ns)) : Calls Try.prog 84 #[.int .i64 op, .slice (some ⟨b, 0, none⟩) ns.length ns.length] w fun e w' => e = .returned (vIN (insV op ns)) ∧ Below w.heap.size w w' := stepT w op ns hl _ _ (ints_row ns hl hB)
theorem pg_at {w : World} {ba : Option Addr} {n bc : Nat} {bs : List BV} (h : PgR w (.slice ba n bc) bs) {k : Nat} (hk : k < bs.length) : ∃ b o da dc ea ec ra rc, ba = some ⟨b, o, none⟩ ∧ b < w.heap.size ∧ w.cell? ⟨b, o + k * 3, none⟩ = some (.slice da bs[k].k.dec.length dc) ∧ w.cell? ⟨b, o + k * 3 + 1, none⟩ = some (.slice ea bs[k].k.enc.length ec) ∧ w.cell? ⟨b, o + k * 3 + 2, none⟩ = some (.slice ra bs[k].k.rows.length rc) ∧ BkR w bs[k].k (.slice da bs[k].k.dec.length dc) (.slice ea bs[k].k.enc.length ec) (.slice ra bs[k].k.rows.length rc) := by
  obtain ⟨b, o, e, hc⟩ := rowAt (g := cBV) (fun _ => rfl) h.row (i := k) (x := bs[k]) (by simp [hk])
  have hb := h.el _ (List.getElem_mem hk)
  obtain ⟨da, dc, e1, -⟩ := rowS_sl hb.hd
  obtain ⟨ea, ec, e2, -⟩ := rowS_sl hb.he
  obtain ⟨ra, rc, e3, -⟩ := rowS_sl hb.hr
  have c0 := hc 0 _ rfl
  have c1 := hc 1 _ rfl
  have c2 := hc 2 _ rfl
  rw [e1] at c0
  rw [e2] at c1
  rw [e3] at c2
  rw [e1, e2, e3] at hb
  exact ⟨b, o, da, dc, ea, ec, ra, rc, e, World.block_lt_of_cell? _ _ c0, c0, c1, c2, hb⟩
theorem isEnumT (w : World) (bs : List BV) (ba : Option Addr) (bc : Nat) (h : PgR w (.slice ba bs.length bc) bs) (k : Nat) (hk : k < bs.length) (h1 : bs[k].k.dec.length = 0) (h2 : bs[k].k.enc.length = 0) : Calls Try.prog 86 #[.slice ba bs.length bc, .int .i64 (k : Int)] w fun e w' => e = .returned (.bool true) ∧ Below w.heap.size w w' := by
  obtain ⟨b, o, da, dc, ea, ec, ra, rc, rfl, hb, c0, c1, c2, -⟩ := pg_at h hk
  rw [h1] at c0
  rw [h2] at c1
  have r1 : (0 : Int) ≤ (k : Int) := by omega
  have r2 : (k : Int) < (bs.length : Int) := by omega
  generalize bs[k].k.rows.length = n3 at *
  clear h h1 h2
  go_enter Try.func86, Try.ntmps86
  go_wp2
  go_ret
  exact ⟨rfl, by exact blBy⟩
theorem isMessageT (w : World) (bs : List BV) (ba : Option Addr) (bc : Nat) (h : PgR w (.slice ba bs.length bc) bs) (k : Nat) (hk : k < bs.length) (h1 : 0 < bs[k].k.dec.length) (hz : bs[k].k.dec.length ≤ 100000 ∧ bs[k].k.enc.length ≤ 100000) : Calls Try.prog 88 #[.slice ba bs.length bc, .int .i64 (k : Int)] w fun e w' => e = .returned (.bool true) ∧ Below w.heap.size w w' := by
  obtain ⟨b, o, da, dc, ea, ec, ra, rc, rfl, hb, c0, c1, c2, -⟩ := pg_at h hk
  have r1 : (0 : Int) ≤ (k : Int) := by omega
  have r2 : (k : Int) < (bs.length : Int) := by omega
  generalize bs[k].k.rows.length = n3 at *
  generalize bs[k].k.dec.length = n1 at *
  generalize bs[k].k.enc.length = n2 at *
  have r3 : (0 : Int) < (n1 : Int) + (n2 : Int) := by omega
  have r4 : (n1 : Int) + (n2 : Int) ≤ 9223372036854775807 := by omega
  have r5 : (n1 : Int) ≤ 100000 := by omega
  have r6 : (n2 : Int) ≤ 100000 := by omega
  clear h h1 hz
  go_enter Try.func88, Try.ntmps88
  go_wp2
  go_ret
  exact ⟨ret_bool (by first | rfl | exact decide_eq_true r3 | (simp; omega)), by exact blBy⟩
/-- A block that a kind needs. -/
def OfKind (bs : List BV) (kind ref : Int) : Prop := 1 ≤ kind ∧ kind ≤ 17 ∧ ∃ k : Nat, ref = (k : Int) ∧ (kind = 16 → ∃ h : k < bs.length, bs[k].k.dec.length = 0 ∧ bs[k].k.enc.length = 0) ∧ (kind = 17 → ∃ h : k < bs.length, 0 < bs[k].k.dec.length ∧ bs[k].k.dec.length ≤ 100000 ∧ bs[k].k.enc.length ≤ 100000) ∧ (kind ≠ 16 → kind ≠ 17 → ref = 0)
theorem isOfKindT (w : World) (bs : List BV) (ba : Option Addr) (bc : Nat) (h : PgR w (.slice ba bs.length bc) bs) (kind ref : Int) (hk : OfKind bs kind ref) : Calls Try.prog 92 #[.slice ba bs.length bc, .int .i64 kind, .int .i64 ref] w fun e w' => e = .returned (.bool true) ∧ Below w.heap.size w w' := by
  obtain ⟨g1, g2, k, rfl, q16, q17, q0⟩ := hk
  by_cases h16 : kind = 16
  · obtain ⟨hl, a1, a2⟩ := q16 h16
    have HE := hid (fun W hW => isEnumT W bs ba bc (h.kept hW) k hl a1 a2)
    subst h16
    clear h q16 q17 q0
    go_enter Try.func92, Try.ntmps92
    go_wp2_with fail
    refine (HE.out _ (by exact blBy)).mono ?_
    rintro e w1 ⟨rfl, hb⟩
    go_wp2
    go_ret
    exact ⟨rfl, hb⟩
  by_cases h17 : kind = 17
  · obtain ⟨hl, a1, a2⟩ := q17 h17
    have HE := hid (fun W hW => isMessageT W bs ba bc (h.kept hW) k hl a1 a2)
    subst h17
    clear h q16 q17 q0
    go_enter Try.func92, Try.ntmps92
    go_wp2_with fail
    refine (HE.out _ (by exact blBy)).mono ?_
    rintro e w1 ⟨rfl, hb⟩
    go_wp2
    go_ret
    exact ⟨rfl, hb⟩
  have e0 := q0 h16 h17
  obtain rfl : k = 0 := by omega
  have k16 : (kind == 16) = false := by simpa using h16
  have k17 : (kind == 17) = false := by simpa using h17
  have r1 : (1 ≤ kind) = True := eq_true g1
  have r2 : (kind ≤ 16) = True := eq_true (by
    rcases Int.lt_or_le 16 kind with q | q
    · exact absurd (Int.le_antisymm g2 q) h17
    · exact q)
  clear h q16 q17 q0 e0
  go_enter Try.func92, Try.ntmps92
  go_wp2
  go_ret
  exact ⟨ret_bool (by first | rfl | simp), by first | exact Below.refl _ _ | exact blBy⟩
theorem areRowSymbolsT (w : World) (bs : List BV) (ba : Option Addr) (bc : Nat) (h : PgR w (.slice ba bs.length bc) bs) (kind num : Int) (hk : (kind = 16 ∧ ∃ k : Nat, num = (k : Int) + 1 ∧ ∃ h : k < bs.length, bs[k].k.dec.length = 0 ∧ bs[k].k.enc.length = 0) ∨ (kind ≠ 16 ∧ num = 0)) (h63 : num ≤ 1000) : Calls Try.prog 90 #[.slice ba bs.length bc, .int .i64 kind, .int .i64 num] w fun e w' => e = .returned (.bool true) ∧ Below w.heap.size w w' := by
  rcases hk with ⟨rfl, k, rfl, hl, a1, a2⟩ | ⟨h16, rfl⟩
  · have HE := hid (fun W hW => isEnumT W bs ba bc (h.kept hW) k hl a1 a2)
    clear h
    go_enter Try.func90, Try.ntmps90
    go_wp2_with (first | (go_at_call 86; (try simp only [Int.add_sub_cancel]); refine (HE.out _ (by first | exact Below.refl _ _ | exact blBy)).mono ?_; rintro e w1 ⟨rfl, hb⟩))
    go_ret
    exact ⟨rfl, hb⟩
  · have k16 : (kind == 16) = false := by simpa using h16
    clear h
    go_enter Try.func90, Try.ntmps90
    go_wp2
    go_ret
    exact ⟨ret_bool (by first | rfl | simp), by first | exact Below.refl _ _ | exact blBy⟩
end Go.Proofs.Ytliohglpbmpbhaa
