/-
  What changed between two fields.
  A symbol of a number; the numbers that are new.
-/
import Derived.Test.YtmjgonckadcbkaaGreatDoorCEV7
import Derived.Deep.RegionHeld3
import Derived.Test.YtmjgonckadcbkaaGreatDoorCTY
namespace Go.Proofs.YtmjgonckadcbkaaGreatDoor
open Go.RowKit
set_option maxRecDepth 1000000
set_option linter.unusedVariables false
set_option linter.unusedSimpArgs false
set_option maxHeartbeats 2000000
/-- The changes of a field: its name, its kind or what it refers to, its label, oneof or key. -/
def fd1 (nm : List Int) (f g : FT) : List CH := if f.name = g.name then [] else [⟨3, 7, nm, f.num⟩]
def fd2 (nm : List Int) (f g : FT) (fr gr : List Int) : List CH := if f.kind = g.kind then (if fr = gr then [] else [⟨4, 8, nm, f.num⟩]) else [⟨widI (widB f.kind g.kind), 8, nm, f.num⟩]
def fd3 (nm : List Int) (f g : FT) (fo go : List Int) : List CH := if f.lab = g.lab then (if fo = go then (if f.key = g.key then [] else [⟨4, 8, nm, f.num⟩]) else [⟨4, 9, nm, f.num⟩]) else [⟨widI (relB f g), 9, nm, f.num⟩]
def fdL (nm : List Int) (f g : FT) (fr gr fo go : List Int) : List CH := fd1 nm f g ++ fd2 nm f g fr gr ++ fd3 nm f g fo go
theorem fdL_le (nm : List Int) (f g : FT) (fr gr fo go : List Int) : (fdL nm f g fr gr fo go).length ≤ 3 := by
  unfold fdL fd1 fd2 fd3
  simp only [List.length_append]
  have a1 : ∀ (c : Prop) [Decidable c] (x : CH), (if c then ([] : List CH) else [x]).length ≤ 1 := fun c _ x => by split <;> simp
  have a2 : ∀ (c d : Prop) [Decidable c] [Decidable d] (x y : CH), (if c then (if d then ([] : List CH) else [x]) else [y]).length ≤ 1 := fun c d _ _ x y => by split <;> (try split) <;> simp
  have a3 : ∀ (c d e : Prop) [Decidable c] [Decidable d] [Decidable e] (x y z : CH), (if c then (if d then (if e then ([] : List CH) else [x]) else [y]) else [z]).length ≤ 1 := fun c d e _ _ _ x y z => by split <;> (try split) <;> (try split) <;> simp
  have := a1 (f.name = g.name) ⟨3, 7, nm, f.num⟩
  have := a2 (f.kind = g.kind) (fr = gr) ⟨4, 8, nm, f.num⟩ ⟨widI (widB f.kind g.kind), 8, nm, f.num⟩
  have := a3 (f.lab = g.lab) (fo = go) (f.key = g.key) ⟨4, 8, nm, f.num⟩ ⟨4, 9, nm, f.num⟩ ⟨widI (relB f g), 9, nm, f.num⟩
  omega
theorem EvS.is {w : World} {base p q : Nat} {cs ds : List CH} (h : EvS w base p q cs) (e : cs = ds) : EvS w base p q ds := e ▸ h
/-- What is known ahead of, and behind, each gathering: the state and the two fields' boxes. -/
structure FdI (w0 : World) (base p q nb : Nat) (nm : List Int) (A B : Array Value) (W : World) (cs : List CH) : Prop where
  s : EvS W base p q cs
  n : Blk W nb 9 #[.string (strOfNums nm)]
  a : Blk W w0.heap.size 103 A
  b : Blk W (w0.heap.size + 1) 103 B
  f : EvF base p q w0 W
theorem FdI.tell {w0 : World} {base p q nb : Nat} {nm : List Int} {A B : Array Value} {W : World} {cs : List CH} (h : FdI w0 base p q nb nm A B W cs) (hb : base ≤ w0.heap.size) (hp : p < w0.heap.size) (hq : q < w0.heap.size) (what num cls : Int) (hn : cs.length ≤ 4000000) : Calls Tryz.prog 21 #[.int .i64 what, .int .i64 num, .int .i64 cls, .pointer (some ⟨p, 0, none⟩), .pointer (some ⟨nb, 0, none⟩), .pointer (some ⟨q, 0, none⟩)] W fun e w' => e = .returned (.tuple #[]) ∧ FdI w0 base p q nb nm A B w' (cs ++ [⟨cls, what, nm, num⟩]) := by
  have hs := h.f.size
  refine (tellT W base p q nb nm cs what num cls h.s h.n (by omega) hn).mono ?_
  rintro e w' ⟨rfl, h1, h2⟩
  obtain ⟨v, hv, _⟩ := h.s.row
  exact ⟨rfl, h1, h.n.evf h2 (h.n.ne hv (by decide)) (h.n.ne h.s.wst (by decide)) (by decide), h.a.evf h2 (by omega) (by omega) (by decide), h.b.evf h2 (by omega) (by omega) (by decide), h.f.trans h2⟩
theorem FdI.kept {w0 : World} {base p q nb : Nat} {nm : List Int} {A B : Array Value} {W W' : World} {cs : List CH} (h : FdI w0 base p q nb nm A B W cs) (hb : Below W.heap.size W W') : FdI w0 base p q nb nm A B W' cs :=
  ⟨h.s.kept hb, h.n.kept hb, h.a.kept hb, h.b.kept hb, h.f.trans (EvF.ofBelow hb)⟩
def cNM (f : FT) (r o : List Int) : Array Value := #[.string (strOfNums f.name), .int .i64 f.num, .int .i64 f.kind, .int .i64 f.ref, .int .i64 f.lab, .int .i64 f.one, .int .i64 f.key, .string (strOfNums r), .string (strOfNums o)]
theorem compareFieldsT (w : World) (base p q nb : Nat) (nm : List Int) (cs : List CH) (f g : FT) (fr gr fo go : List Int) (hS : EvS w base p q cs) (hN : Blk w nb 9 #[.string (strOfNums nm)]) (hb : base ≤ w.heap.size) (hn : cs.length ≤ 3000000)
    (t1 : TxA f.name) (t2 : TxA g.name) (t3 : TxA fr) (t4 : TxA gr) (t5 : TxA fo) (t6 : TxA go) : Calls Tryz.prog 57 #[aNM f fr fo, aNM g gr go, .func (.func 21) #[] #[.pointer (some ⟨p, 0, none⟩), .pointer (some ⟨nb, 0, none⟩), .pointer (some ⟨q, 0, none⟩)]] w fun e w' => e = .returned (.tuple #[]) ∧ EvS w' base p q (cs ++ fdL nm f g fr gr fo go) ∧ EvF base p q w w' := by
  have hp := hS.bp
  have hq := hS.bq
  have HI : Hid (FdI w base p q nb nm (cNM f fr fo) (cNM g gr go) ((w.alloc (.cells (cNM f fr fo) 103)).alloc (.cells (cNM g gr go) 103)) cs) := hid ⟨hS.kept (by exact blBy), hN.kept (by exact blBy), (Blk.new _ _ _).kept (below_alloc _), Blk.newAt (by simp), EvF.ofBelow (by exact blBy)⟩
  have HT : Hid (∀ W cs, FdI w base p q nb nm (cNM f fr fo) (cNM g gr go) W cs → ∀ what num cls, cs.length ≤ 4000000 → Calls Tryz.prog 21 #[.int .i64 what, .int .i64 num, .int .i64 cls, .pointer (some ⟨p, 0, none⟩), .pointer (some ⟨nb, 0, none⟩), .pointer (some ⟨q, 0, none⟩)] W fun e w' => e = .returned (.tuple #[]) ∧ FdI w base p q nb nm (cNM f fr fo) (cNM g gr go) w' (cs ++ [⟨cls, what, nm, num⟩])) := hid fun W cs h what num cls hl => h.tell hb hp hq what num cls hl
  have HX : Hid (fdL nm f g fr gr fo go = fd1 nm f g ++ fd2 nm f g fr gr ++ fd3 nm f g fo go) := hid rfl
  have HL := hid (fdL_le nm f g fr gr fo go)
  have HW := hid (fun W => widerT f.kind g.kind W)
  have HR := hid (fun W => relabelT W f g)
  have HV := hid (fun b W => wideningT b W)
  have s1 := str_eq t1.1 t2.1
  have s2 := str_eq t3.1 t4.1
  have s3 := str_eq t5.1 t6.1
  have H1 : Hid (∀ (h : f.name = g.name), fd1 nm f g = []) := hid fun h => by unfold fd1; rw [if_pos h]
  have H2 : Hid (∀ (h : ¬ f.name = g.name), fd1 nm f g = [⟨3, 7, nm, f.num⟩]) := hid fun h => by unfold fd1; rw [if_neg h]
  have H3 : Hid (∀ (h : ¬ f.kind = g.kind), fd2 nm f g fr gr = [⟨widI (widB f.kind g.kind), 8, nm, f.num⟩]) := hid fun h => by unfold fd2; rw [if_neg h]
  have H4 : Hid (∀ (h : f.kind = g.kind) (h2 : fr = gr), fd2 nm f g fr gr = []) := hid fun h h2 => by unfold fd2; rw [if_pos h, if_pos h2]
  have H5 : Hid (∀ (h : f.kind = g.kind) (h2 : ¬ fr = gr), fd2 nm f g fr gr = [⟨4, 8, nm, f.num⟩]) := hid fun h h2 => by unfold fd2; rw [if_pos h, if_neg h2]
  have H6 : Hid (∀ (h : ¬ f.lab = g.lab), fd3 nm f g fo go = [⟨widI (relB f g), 9, nm, f.num⟩]) := hid fun h => by unfold fd3; rw [if_neg h]
  have H7 : Hid (∀ (h : f.lab = g.lab) (h2 : ¬ fo = go), fd3 nm f g fo go = [⟨4, 9, nm, f.num⟩]) := hid fun h h2 => by unfold fd3; rw [if_pos h, if_neg h2]
  have H8 : Hid (∀ (h : f.lab = g.lab) (h2 : fo = go) (h3 : ¬ f.key = g.key), fd3 nm f g fo go = [⟨4, 8, nm, f.num⟩]) := hid fun h h2 h3 => by unfold fd3; rw [if_pos h, if_pos h2, if_neg h3]
  have H9 : Hid (∀ (h : f.lab = g.lab) (h2 : fo = go) (h3 : f.key = g.key), fd3 nm f g fo go = []) := hid fun h h2 h3 => by unfold fd3; rw [if_pos h, if_pos h2, if_pos h3]
  generalize fdL nm f g fr gr fo go = D at *
  generalize fd1 nm f g = D1 at *
  generalize fd2 nm f g fr gr = D2 at *
  generalize fd3 nm f g fo go = D3 at *
  clear hS hN t1 t2 t3 t4 t5 t6 hb
  obtain ⟨fn, f1, f2, f3, f4, f5, f6⟩ := f
  obtain ⟨gn, g1, g2, g3, g4, g5, g6⟩ := g
  unfold aNM
  unfold cNM at HI HT
  dsimp only at HI HT HW HR H1 H2 H3 H4 H5 H6 H7 H8 H9 s1 s2 s3 ⊢
  generalize widB f2 g2 = wb at *
  generalize relB ⟨fn, f1, f2, f3, f4, f5, f6⟩ ⟨gn, g1, g2, g3, g4, g5, g6⟩ = rb at *
  unfold aFT at HR
  dsimp only at HR
  go_enter Tryz.func57, Tryz.ntmps57
  go_upto_region 1 with fail
  generalize ((w.alloc (.cells _ 103)).alloc (.cells _ 103)) = w0 at *
  have xa := HI.out.a.cellF
  have za := HI.out.a.lt
  have xb := HI.out.b.cellF
  have zb := HI.out.b.lt
  by_cases e1 : fn = gn
  · rw [decide_eq_true e1] at s1
    replace e1 := hid e1
    by_cases e2 : f2 = g2
    · have k2 : (f2 != g2) = false := by simpa using e2
      replace e2 := hid e2
      by_cases e3 : fr = gr
      · rw [decide_eq_true e3] at s2
        replace e3 := hid e3
        by_cases e4 : f4 = g4
        · have k4 : (f4 != g4) = false := by simpa using e4
          replace e4 := hid e4
          by_cases e5 : fo = go
          · rw [decide_eq_true e5] at s3
            replace e5 := hid e5
            by_cases e6 : f6 = g6
            · have k6 : (f6 != g6) = false := by simpa using e6
              replace e6 := hid e6
              go_wp2
              go_end0
              exact ⟨rfl, HI.out.s.is (by rw [HX.out, H1.out e1.out, H4.out e2.out e3.out, H9.out e4.out e5.out e6.out]; simp), HI.out.f⟩
            · have k6 : (f6 != g6) = true := by simpa using e6
              replace e6 := hid e6
              go_wp2_with fail
              refine (HT.out _ _ HI.out _ _ _ (by first | omega | (simp only [List.length_append, List.length_cons, List.length_nil]; omega))).mono ?_
              rintro e w3 ⟨rfl, h3⟩
              clear xa za xb zb
              replace HI := hid h3
              clear h3
              go_wp2
              go_end0
              exact ⟨rfl, HI.out.s.is (by rw [HX.out, H1.out e1.out, H4.out e2.out e3.out, H8.out e4.out e5.out e6.out]; simp), HI.out.f⟩
          · rw [decide_eq_false e5] at s3
            replace e5 := hid e5
            go_wp2_with fail
            refine (HT.out _ _ HI.out _ _ _ (by first | omega | (simp only [List.length_append, List.length_cons, List.length_nil]; omega))).mono ?_
            rintro e w3 ⟨rfl, h3⟩
            clear xa za xb zb
            replace HI := hid h3
            clear h3
            go_wp2
            go_end0
            exact ⟨rfl, HI.out.s.is (by rw [HX.out, H1.out e1.out, H4.out e2.out e3.out, H7.out e4.out e5.out]; simp), HI.out.f⟩
        · have k4 : (f4 != g4) = true := by simpa using e4
          replace e4 := hid e4
          go_wp2_with fail
          have s_0 := HI.out.a.cell 0 _ rfl
          have s_1 := HI.out.a.cell 1 _ rfl
          have s_2 := HI.out.a.cell 2 _ rfl
          have s_3 := HI.out.a.cell 3 _ rfl
          have s_4 := HI.out.a.cell 4 _ rfl
          have s_5 := HI.out.a.cell 5 _ rfl
          have s_6 := HI.out.a.cell 6 _ rfl
          have s_7 := HI.out.b.cell 0 _ rfl
          have s_8 := HI.out.b.cell 1 _ rfl
          have s_9 := HI.out.b.cell 2 _ rfl
          have s_10 := HI.out.b.cell 3 _ rfl
          have s_11 := HI.out.b.cell 4 _ rfl
          have s_12 := HI.out.b.cell 5 _ rfl
          have s_13 := HI.out.b.cell 6 _ rfl
          go_region_held3 (fun W => W.cell? ⟨w.heap.size, 0, none⟩ = some (.string (strOfNums fn)) ∧ W.cell? ⟨w.heap.size, 1, none⟩ = some (.int .i64 f1) ∧ W.cell? ⟨w.heap.size, 2, none⟩ = some (.int .i64 f2) ∧ W.cell? ⟨w.heap.size, 3, none⟩ = some (.int .i64 f3) ∧ W.cell? ⟨w.heap.size, 4, none⟩ = some (.int .i64 f4) ∧ W.cell? ⟨w.heap.size, 5, none⟩ = some (.int .i64 f5) ∧ W.cell? ⟨w.heap.size, 6, none⟩ = some (.int .i64 f6) ∧ W.cell? ⟨w.heap.size + 1, 0, none⟩ = some (.string (strOfNums gn)) ∧ W.cell? ⟨w.heap.size + 1, 1, none⟩ = some (.int .i64 g1) ∧ W.cell? ⟨w.heap.size + 1, 2, none⟩ = some (.int .i64 g2) ∧ W.cell? ⟨w.heap.size + 1, 3, none⟩ = some (.int .i64 g3) ∧ W.cell? ⟨w.heap.size + 1, 4, none⟩ = some (.int .i64 g4) ∧ W.cell? ⟨w.heap.size + 1, 5, none⟩ = some (.int .i64 g5) ∧ W.cell? ⟨w.heap.size + 1, 6, none⟩ = some (.int .i64 g6)) (exact ⟨s_0, s_1, s_2, s_3, s_4, s_5, s_6, s_7, s_8, s_9, s_10, s_11, s_12, s_13⟩) (first | (go_at_call 89; refine (HR.out _).mono ?_; rintro e u1 ⟨rfl, hu1⟩; have HU := hid (below_trans (by first | exact below_drew1 _ | exact Below.refl _ _) hu1); replace s_0 := cell_below s_0 HU.out; replace s_1 := cell_below s_1 HU.out; replace s_2 := cell_below s_2 HU.out; replace s_3 := cell_below s_3 HU.out; replace s_4 := cell_below s_4 HU.out; replace s_5 := cell_below s_5 HU.out; replace s_6 := cell_below s_6 HU.out; replace s_7 := cell_below s_7 HU.out; replace s_8 := cell_below s_8 HU.out; replace s_9 := cell_below s_9 HU.out; replace s_10 := cell_below s_10 HU.out; replace s_11 := cell_below s_11 HU.out; replace s_12 := cell_below s_12 HU.out; replace s_13 := cell_below s_13 HU.out) | (go_at_call 61; refine (HV.out _ _).mono ?_; rintro e u2 ⟨rfl, rfl⟩) | (go_at_call 21; refine (HT.out _ _ (HI.out.kept (by first | exact below_drew1 _ | exact Below.refl _ _ | exact HU.out)) _ _ _ (by first | omega | (simp only [List.length_append, List.length_cons, List.length_nil]; omega))).mono ?_; rintro e w3 ⟨rfl, h3⟩; replace s_0 := h3.a.cell 0 _ rfl; replace s_1 := h3.a.cell 1 _ rfl; replace s_2 := h3.a.cell 2 _ rfl; replace s_3 := h3.a.cell 3 _ rfl; replace s_4 := h3.a.cell 4 _ rfl; replace s_5 := h3.a.cell 5 _ rfl; replace s_6 := h3.a.cell 6 _ rfl; replace s_7 := h3.b.cell 0 _ rfl; replace s_8 := h3.b.cell 1 _ rfl; replace s_9 := h3.b.cell 2 _ rfl; replace s_10 := h3.b.cell 3 _ rfl; replace s_11 := h3.b.cell 4 _ rfl; replace s_12 := h3.b.cell 5 _ rfl; replace s_13 := h3.b.cell 6 _ rfl; replace HI := hid h3))
          all_goals (go_wp2; go_end0; exact ⟨rfl, HI.out.s.is (by rw [HX.out, H1.out e1.out, H4.out e2.out e3.out, H6.out e4.out]; simp), HI.out.f⟩)
      · rw [decide_eq_false e3] at s2
        replace e3 := hid e3
        go_wp2_with fail
        refine (HT.out _ _ HI.out _ _ _ (by first | omega | (simp only [List.length_append, List.length_cons, List.length_nil]; omega))).mono ?_
        rintro e w2 ⟨rfl, h2⟩
        clear xa za xb zb
        replace HI := hid h2
        clear h2
        have xa := HI.out.a.cellF
        have za := HI.out.a.lt
        have xb := HI.out.b.cellF
        have zb := HI.out.b.lt
        by_cases e4 : f4 = g4
        · have k4 : (f4 != g4) = false := by simpa using e4
          replace e4 := hid e4
          by_cases e5 : fo = go
          · rw [decide_eq_true e5] at s3
            replace e5 := hid e5
            by_cases e6 : f6 = g6
            · have k6 : (f6 != g6) = false := by simpa using e6
              replace e6 := hid e6
              go_wp2
              go_end0
              exact ⟨rfl, HI.out.s.is (by rw [HX.out, H1.out e1.out, H5.out e2.out e3.out, H9.out e4.out e5.out e6.out]; simp), HI.out.f⟩
            · have k6 : (f6 != g6) = true := by simpa using e6
              replace e6 := hid e6
              go_wp2_with fail
              refine (HT.out _ _ HI.out _ _ _ (by first | omega | (simp only [List.length_append, List.length_cons, List.length_nil]; omega))).mono ?_
              rintro e w3 ⟨rfl, h3⟩
              clear xa za xb zb
              replace HI := hid h3
              clear h3
              go_wp2
              go_end0
              exact ⟨rfl, HI.out.s.is (by rw [HX.out, H1.out e1.out, H5.out e2.out e3.out, H8.out e4.out e5.out e6.out]; simp), HI.out.f⟩
          · rw [decide_eq_false e5] at s3
            replace e5 := hid e5
            go_wp2_with fail
            refine (HT.out _ _ HI.out _ _ _ (by first | omega | (simp only [List.length_append, List.length_cons, List.length_nil]; omega))).mono ?_
            rintro e w3 ⟨rfl, h3⟩
            clear xa za xb zb
            replace HI := hid h3
            clear h3
            go_wp2
            go_end0
            exact ⟨rfl, HI.out.s.is (by rw [HX.out, H1.out e1.out, H5.out e2.out e3.out, H7.out e4.out e5.out]; simp), HI.out.f⟩
        · have k4 : (f4 != g4) = true := by simpa using e4
          replace e4 := hid e4
          go_wp2_with fail
          have s_0 := HI.out.a.cell 0 _ rfl
          have s_1 := HI.out.a.cell 1 _ rfl
          have s_2 := HI.out.a.cell 2 _ rfl
          have s_3 := HI.out.a.cell 3 _ rfl
          have s_4 := HI.out.a.cell 4 _ rfl
          have s_5 := HI.out.a.cell 5 _ rfl
          have s_6 := HI.out.a.cell 6 _ rfl
          have s_7 := HI.out.b.cell 0 _ rfl
          have s_8 := HI.out.b.cell 1 _ rfl
          have s_9 := HI.out.b.cell 2 _ rfl
          have s_10 := HI.out.b.cell 3 _ rfl
          have s_11 := HI.out.b.cell 4 _ rfl
          have s_12 := HI.out.b.cell 5 _ rfl
          have s_13 := HI.out.b.cell 6 _ rfl
          go_region_held3 (fun W => W.cell? ⟨w.heap.size, 0, none⟩ = some (.string (strOfNums fn)) ∧ W.cell? ⟨w.heap.size, 1, none⟩ = some (.int .i64 f1) ∧ W.cell? ⟨w.heap.size, 2, none⟩ = some (.int .i64 f2) ∧ W.cell? ⟨w.heap.size, 3, none⟩ = some (.int .i64 f3) ∧ W.cell? ⟨w.heap.size, 4, none⟩ = some (.int .i64 f4) ∧ W.cell? ⟨w.heap.size, 5, none⟩ = some (.int .i64 f5) ∧ W.cell? ⟨w.heap.size, 6, none⟩ = some (.int .i64 f6) ∧ W.cell? ⟨w.heap.size + 1, 0, none⟩ = some (.string (strOfNums gn)) ∧ W.cell? ⟨w.heap.size + 1, 1, none⟩ = some (.int .i64 g1) ∧ W.cell? ⟨w.heap.size + 1, 2, none⟩ = some (.int .i64 g2) ∧ W.cell? ⟨w.heap.size + 1, 3, none⟩ = some (.int .i64 g3) ∧ W.cell? ⟨w.heap.size + 1, 4, none⟩ = some (.int .i64 g4) ∧ W.cell? ⟨w.heap.size + 1, 5, none⟩ = some (.int .i64 g5) ∧ W.cell? ⟨w.heap.size + 1, 6, none⟩ = some (.int .i64 g6)) (exact ⟨s_0, s_1, s_2, s_3, s_4, s_5, s_6, s_7, s_8, s_9, s_10, s_11, s_12, s_13⟩) (first | (go_at_call 89; refine (HR.out _).mono ?_; rintro e u1 ⟨rfl, hu1⟩; have HU := hid (below_trans (by first | exact below_drew1 _ | exact Below.refl _ _) hu1); replace s_0 := cell_below s_0 HU.out; replace s_1 := cell_below s_1 HU.out; replace s_2 := cell_below s_2 HU.out; replace s_3 := cell_below s_3 HU.out; replace s_4 := cell_below s_4 HU.out; replace s_5 := cell_below s_5 HU.out; replace s_6 := cell_below s_6 HU.out; replace s_7 := cell_below s_7 HU.out; replace s_8 := cell_below s_8 HU.out; replace s_9 := cell_below s_9 HU.out; replace s_10 := cell_below s_10 HU.out; replace s_11 := cell_below s_11 HU.out; replace s_12 := cell_below s_12 HU.out; replace s_13 := cell_below s_13 HU.out) | (go_at_call 61; refine (HV.out _ _).mono ?_; rintro e u2 ⟨rfl, rfl⟩) | (go_at_call 21; refine (HT.out _ _ (HI.out.kept (by first | exact below_drew1 _ | exact Below.refl _ _ | exact HU.out)) _ _ _ (by first | omega | (simp only [List.length_append, List.length_cons, List.length_nil]; omega))).mono ?_; rintro e w3 ⟨rfl, h3⟩; replace s_0 := h3.a.cell 0 _ rfl; replace s_1 := h3.a.cell 1 _ rfl; replace s_2 := h3.a.cell 2 _ rfl; replace s_3 := h3.a.cell 3 _ rfl; replace s_4 := h3.a.cell 4 _ rfl; replace s_5 := h3.a.cell 5 _ rfl; replace s_6 := h3.a.cell 6 _ rfl; replace s_7 := h3.b.cell 0 _ rfl; replace s_8 := h3.b.cell 1 _ rfl; replace s_9 := h3.b.cell 2 _ rfl; replace s_10 := h3.b.cell 3 _ rfl; replace s_11 := h3.b.cell 4 _ rfl; replace s_12 := h3.b.cell 5 _ rfl; replace s_13 := h3.b.cell 6 _ rfl; replace HI := hid h3))
          all_goals (go_wp2; go_end0; exact ⟨rfl, HI.out.s.is (by rw [HX.out, H1.out e1.out, H5.out e2.out e3.out, H6.out e4.out]; simp), HI.out.f⟩)
    · have k2 : (f2 != g2) = true := by simpa using e2
      replace e2 := hid e2
      go_wp2_with fail
      have s_0 := HI.out.a.cell 1 _ rfl
      have s_1 := HI.out.a.cell 2 _ rfl
      have s_2 := HI.out.b.cell 2 _ rfl
      go_region_held3 (fun W => W.cell? ⟨w.heap.size, 1, none⟩ = some (.int .i64 f1) ∧ W.cell? ⟨w.heap.size, 2, none⟩ = some (.int .i64 f2) ∧ W.cell? ⟨w.heap.size + 1, 2, none⟩ = some (.int .i64 g2)) (exact ⟨s_0, s_1, s_2⟩) (first | (go_at_call 12; refine (HW.out _).mono ?_; rintro e u1 ⟨rfl, rfl⟩) | (go_at_call 61; refine (HV.out _ _).mono ?_; rintro e u2 ⟨rfl, rfl⟩) | (go_at_call 21; refine (HT.out _ _ (HI.out.kept (by first | exact below_drew1 _ | exact Below.refl _ _ | exact HU.out)) _ _ _ (by first | omega | (simp only [List.length_append, List.length_cons, List.length_nil]; omega))).mono ?_; rintro e w2 ⟨rfl, h2⟩; replace s_0 := h2.a.cell 1 _ rfl; replace s_1 := h2.a.cell 2 _ rfl; replace s_2 := h2.b.cell 2 _ rfl; replace HI := hid h2))
      clear xa za xb zb
      have xa := HI.out.a.cellF
      have za := HI.out.a.lt
      have xb := HI.out.b.cellF
      have zb := HI.out.b.lt
      by_cases e4 : f4 = g4
      · have k4 : (f4 != g4) = false := by simpa using e4
        replace e4 := hid e4
        by_cases e5 : fo = go
        · rw [decide_eq_true e5] at s3
          replace e5 := hid e5
          by_cases e6 : f6 = g6
          · have k6 : (f6 != g6) = false := by simpa using e6
            replace e6 := hid e6
            go_wp2
            go_end0
            exact ⟨rfl, HI.out.s.is (by rw [HX.out, H1.out e1.out, H3.out e2.out, H9.out e4.out e5.out e6.out]; simp), HI.out.f⟩
          · have k6 : (f6 != g6) = true := by simpa using e6
            replace e6 := hid e6
            go_wp2_with fail
            refine (HT.out _ _ HI.out _ _ _ (by first | omega | (simp only [List.length_append, List.length_cons, List.length_nil]; omega))).mono ?_
            rintro e w3 ⟨rfl, h3⟩
            clear xa za xb zb
            replace HI := hid h3
            clear h3
            go_wp2
            go_end0
            exact ⟨rfl, HI.out.s.is (by rw [HX.out, H1.out e1.out, H3.out e2.out, H8.out e4.out e5.out e6.out]; simp), HI.out.f⟩
        · rw [decide_eq_false e5] at s3
          replace e5 := hid e5
          go_wp2_with fail
          refine (HT.out _ _ HI.out _ _ _ (by first | omega | (simp only [List.length_append, List.length_cons, List.length_nil]; omega))).mono ?_
          rintro e w3 ⟨rfl, h3⟩
          clear xa za xb zb
          replace HI := hid h3
          clear h3
          go_wp2
          go_end0
          exact ⟨rfl, HI.out.s.is (by rw [HX.out, H1.out e1.out, H3.out e2.out, H7.out e4.out e5.out]; simp), HI.out.f⟩
      · have k4 : (f4 != g4) = true := by simpa using e4
        replace e4 := hid e4
        go_wp2_with fail
        have s_0 := HI.out.a.cell 0 _ rfl
        have s_1 := HI.out.a.cell 1 _ rfl
        have s_2 := HI.out.a.cell 2 _ rfl
        have s_3 := HI.out.a.cell 3 _ rfl
        have s_4 := HI.out.a.cell 4 _ rfl
        have s_5 := HI.out.a.cell 5 _ rfl
        have s_6 := HI.out.a.cell 6 _ rfl
        have s_7 := HI.out.b.cell 0 _ rfl
        have s_8 := HI.out.b.cell 1 _ rfl
        have s_9 := HI.out.b.cell 2 _ rfl
        have s_10 := HI.out.b.cell 3 _ rfl
        have s_11 := HI.out.b.cell 4 _ rfl
        have s_12 := HI.out.b.cell 5 _ rfl
        have s_13 := HI.out.b.cell 6 _ rfl
        go_region_held3 (fun W => W.cell? ⟨w.heap.size, 0, none⟩ = some (.string (strOfNums fn)) ∧ W.cell? ⟨w.heap.size, 1, none⟩ = some (.int .i64 f1) ∧ W.cell? ⟨w.heap.size, 2, none⟩ = some (.int .i64 f2) ∧ W.cell? ⟨w.heap.size, 3, none⟩ = some (.int .i64 f3) ∧ W.cell? ⟨w.heap.size, 4, none⟩ = some (.int .i64 f4) ∧ W.cell? ⟨w.heap.size, 5, none⟩ = some (.int .i64 f5) ∧ W.cell? ⟨w.heap.size, 6, none⟩ = some (.int .i64 f6) ∧ W.cell? ⟨w.heap.size + 1, 0, none⟩ = some (.string (strOfNums gn)) ∧ W.cell? ⟨w.heap.size + 1, 1, none⟩ = some (.int .i64 g1) ∧ W.cell? ⟨w.heap.size + 1, 2, none⟩ = some (.int .i64 g2) ∧ W.cell? ⟨w.heap.size + 1, 3, none⟩ = some (.int .i64 g3) ∧ W.cell? ⟨w.heap.size + 1, 4, none⟩ = some (.int .i64 g4) ∧ W.cell? ⟨w.heap.size + 1, 5, none⟩ = some (.int .i64 g5) ∧ W.cell? ⟨w.heap.size + 1, 6, none⟩ = some (.int .i64 g6)) (exact ⟨s_0, s_1, s_2, s_3, s_4, s_5, s_6, s_7, s_8, s_9, s_10, s_11, s_12, s_13⟩) (first | (go_at_call 89; refine (HR.out _).mono ?_; rintro e u1 ⟨rfl, hu1⟩; have HU := hid (below_trans (by first | exact below_drew1 _ | exact Below.refl _ _) hu1); replace s_0 := cell_below s_0 HU.out; replace s_1 := cell_below s_1 HU.out; replace s_2 := cell_below s_2 HU.out; replace s_3 := cell_below s_3 HU.out; replace s_4 := cell_below s_4 HU.out; replace s_5 := cell_below s_5 HU.out; replace s_6 := cell_below s_6 HU.out; replace s_7 := cell_below s_7 HU.out; replace s_8 := cell_below s_8 HU.out; replace s_9 := cell_below s_9 HU.out; replace s_10 := cell_below s_10 HU.out; replace s_11 := cell_below s_11 HU.out; replace s_12 := cell_below s_12 HU.out; replace s_13 := cell_below s_13 HU.out) | (go_at_call 61; refine (HV.out _ _).mono ?_; rintro e u2 ⟨rfl, rfl⟩) | (go_at_call 21; refine (HT.out _ _ (HI.out.kept (by first | exact below_drew1 _ | exact Below.refl _ _ | exact HU.out)) _ _ _ (by first | omega | (simp only [List.length_append, List.length_cons, List.length_nil]; omega))).mono ?_; rintro e w3 ⟨rfl, h3⟩; replace s_0 := h3.a.cell 0 _ rfl; replace s_1 := h3.a.cell 1 _ rfl; replace s_2 := h3.a.cell 2 _ rfl; replace s_3 := h3.a.cell 3 _ rfl; replace s_4 := h3.a.cell 4 _ rfl; replace s_5 := h3.a.cell 5 _ rfl; replace s_6 := h3.a.cell 6 _ rfl; replace s_7 := h3.b.cell 0 _ rfl; replace s_8 := h3.b.cell 1 _ rfl; replace s_9 := h3.b.cell 2 _ rfl; replace s_10 := h3.b.cell 3 _ rfl; replace s_11 := h3.b.cell 4 _ rfl; replace s_12 := h3.b.cell 5 _ rfl; replace s_13 := h3.b.cell 6 _ rfl; replace HI := hid h3))
        all_goals (go_wp2; go_end0; exact ⟨rfl, HI.out.s.is (by rw [HX.out, H1.out e1.out, H3.out e2.out, H6.out e4.out]; simp), HI.out.f⟩)
  · rw [decide_eq_false e1] at s1
    replace e1 := hid e1
    go_wp2_with fail
    refine (HT.out _ _ HI.out _ _ _ (by first | omega | (simp only [List.length_append, List.length_cons, List.length_nil]; omega))).mono ?_
    rintro e w1 ⟨rfl, h1⟩
    clear xa za xb zb
    replace HI := hid h1
    clear h1
    have xa := HI.out.a.cellF
    have za := HI.out.a.lt
    have xb := HI.out.b.cellF
    have zb := HI.out.b.lt
    by_cases e2 : f2 = g2
    · have k2 : (f2 != g2) = false := by simpa using e2
      replace e2 := hid e2
      by_cases e3 : fr = gr
      · rw [decide_eq_true e3] at s2
        replace e3 := hid e3
        by_cases e4 : f4 = g4
        · have k4 : (f4 != g4) = false := by simpa using e4
          replace e4 := hid e4
          by_cases e5 : fo = go
          · rw [decide_eq_true e5] at s3
            replace e5 := hid e5
            by_cases e6 : f6 = g6
            · have k6 : (f6 != g6) = false := by simpa using e6
              replace e6 := hid e6
              go_wp2
              go_end0
              exact ⟨rfl, HI.out.s.is (by rw [HX.out, H2.out e1.out, H4.out e2.out e3.out, H9.out e4.out e5.out e6.out]; simp), HI.out.f⟩
            · have k6 : (f6 != g6) = true := by simpa using e6
              replace e6 := hid e6
              go_wp2_with fail
              refine (HT.out _ _ HI.out _ _ _ (by first | omega | (simp only [List.length_append, List.length_cons, List.length_nil]; omega))).mono ?_
              rintro e w3 ⟨rfl, h3⟩
              clear xa za xb zb
              replace HI := hid h3
              clear h3
              go_wp2
              go_end0
              exact ⟨rfl, HI.out.s.is (by rw [HX.out, H2.out e1.out, H4.out e2.out e3.out, H8.out e4.out e5.out e6.out]; simp), HI.out.f⟩
          · rw [decide_eq_false e5] at s3
            replace e5 := hid e5
            go_wp2_with fail
            refine (HT.out _ _ HI.out _ _ _ (by first | omega | (simp only [List.length_append, List.length_cons, List.length_nil]; omega))).mono ?_
            rintro e w3 ⟨rfl, h3⟩
            clear xa za xb zb
            replace HI := hid h3
            clear h3
            go_wp2
            go_end0
            exact ⟨rfl, HI.out.s.is (by rw [HX.out, H2.out e1.out, H4.out e2.out e3.out, H7.out e4.out e5.out]; simp), HI.out.f⟩
        · have k4 : (f4 != g4) = true := by simpa using e4
          replace e4 := hid e4
          go_wp2_with fail
          have s_0 := HI.out.a.cell 0 _ rfl
          have s_1 := HI.out.a.cell 1 _ rfl
          have s_2 := HI.out.a.cell 2 _ rfl
          have s_3 := HI.out.a.cell 3 _ rfl
          have s_4 := HI.out.a.cell 4 _ rfl
          have s_5 := HI.out.a.cell 5 _ rfl
          have s_6 := HI.out.a.cell 6 _ rfl
          have s_7 := HI.out.b.cell 0 _ rfl
          have s_8 := HI.out.b.cell 1 _ rfl
          have s_9 := HI.out.b.cell 2 _ rfl
          have s_10 := HI.out.b.cell 3 _ rfl
          have s_11 := HI.out.b.cell 4 _ rfl
          have s_12 := HI.out.b.cell 5 _ rfl
          have s_13 := HI.out.b.cell 6 _ rfl
          go_region_held3 (fun W => W.cell? ⟨w.heap.size, 0, none⟩ = some (.string (strOfNums fn)) ∧ W.cell? ⟨w.heap.size, 1, none⟩ = some (.int .i64 f1) ∧ W.cell? ⟨w.heap.size, 2, none⟩ = some (.int .i64 f2) ∧ W.cell? ⟨w.heap.size, 3, none⟩ = some (.int .i64 f3) ∧ W.cell? ⟨w.heap.size, 4, none⟩ = some (.int .i64 f4) ∧ W.cell? ⟨w.heap.size, 5, none⟩ = some (.int .i64 f5) ∧ W.cell? ⟨w.heap.size, 6, none⟩ = some (.int .i64 f6) ∧ W.cell? ⟨w.heap.size + 1, 0, none⟩ = some (.string (strOfNums gn)) ∧ W.cell? ⟨w.heap.size + 1, 1, none⟩ = some (.int .i64 g1) ∧ W.cell? ⟨w.heap.size + 1, 2, none⟩ = some (.int .i64 g2) ∧ W.cell? ⟨w.heap.size + 1, 3, none⟩ = some (.int .i64 g3) ∧ W.cell? ⟨w.heap.size + 1, 4, none⟩ = some (.int .i64 g4) ∧ W.cell? ⟨w.heap.size + 1, 5, none⟩ = some (.int .i64 g5) ∧ W.cell? ⟨w.heap.size + 1, 6, none⟩ = some (.int .i64 g6)) (exact ⟨s_0, s_1, s_2, s_3, s_4, s_5, s_6, s_7, s_8, s_9, s_10, s_11, s_12, s_13⟩) (first | (go_at_call 89; refine (HR.out _).mono ?_; rintro e u1 ⟨rfl, hu1⟩; have HU := hid (below_trans (by first | exact below_drew1 _ | exact Below.refl _ _) hu1); replace s_0 := cell_below s_0 HU.out; replace s_1 := cell_below s_1 HU.out; replace s_2 := cell_below s_2 HU.out; replace s_3 := cell_below s_3 HU.out; replace s_4 := cell_below s_4 HU.out; replace s_5 := cell_below s_5 HU.out; replace s_6 := cell_below s_6 HU.out; replace s_7 := cell_below s_7 HU.out; replace s_8 := cell_below s_8 HU.out; replace s_9 := cell_below s_9 HU.out; replace s_10 := cell_below s_10 HU.out; replace s_11 := cell_below s_11 HU.out; replace s_12 := cell_below s_12 HU.out; replace s_13 := cell_below s_13 HU.out) | (go_at_call 61; refine (HV.out _ _).mono ?_; rintro e u2 ⟨rfl, rfl⟩) | (go_at_call 21; refine (HT.out _ _ (HI.out.kept (by first | exact below_drew1 _ | exact Below.refl _ _ | exact HU.out)) _ _ _ (by first | omega | (simp only [List.length_append, List.length_cons, List.length_nil]; omega))).mono ?_; rintro e w3 ⟨rfl, h3⟩; replace s_0 := h3.a.cell 0 _ rfl; replace s_1 := h3.a.cell 1 _ rfl; replace s_2 := h3.a.cell 2 _ rfl; replace s_3 := h3.a.cell 3 _ rfl; replace s_4 := h3.a.cell 4 _ rfl; replace s_5 := h3.a.cell 5 _ rfl; replace s_6 := h3.a.cell 6 _ rfl; replace s_7 := h3.b.cell 0 _ rfl; replace s_8 := h3.b.cell 1 _ rfl; replace s_9 := h3.b.cell 2 _ rfl; replace s_10 := h3.b.cell 3 _ rfl; replace s_11 := h3.b.cell 4 _ rfl; replace s_12 := h3.b.cell 5 _ rfl; replace s_13 := h3.b.cell 6 _ rfl; replace HI := hid h3))
          all_goals (go_wp2; go_end0; exact ⟨rfl, HI.out.s.is (by rw [HX.out, H2.out e1.out, H4.out e2.out e3.out, H6.out e4.out]; simp), HI.out.f⟩)
      · rw [decide_eq_false e3] at s2
        replace e3 := hid e3
        go_wp2_with fail
        refine (HT.out _ _ HI.out _ _ _ (by first | omega | (simp only [List.length_append, List.length_cons, List.length_nil]; omega))).mono ?_
        rintro e w2 ⟨rfl, h2⟩
        clear xa za xb zb
        replace HI := hid h2
        clear h2
        have xa := HI.out.a.cellF
        have za := HI.out.a.lt
        have xb := HI.out.b.cellF
        have zb := HI.out.b.lt
        by_cases e4 : f4 = g4
        · have k4 : (f4 != g4) = false := by simpa using e4
          replace e4 := hid e4
          by_cases e5 : fo = go
          · rw [decide_eq_true e5] at s3
            replace e5 := hid e5
            by_cases e6 : f6 = g6
            · have k6 : (f6 != g6) = false := by simpa using e6
              replace e6 := hid e6
              go_wp2
              go_end0
              exact ⟨rfl, HI.out.s.is (by rw [HX.out, H2.out e1.out, H5.out e2.out e3.out, H9.out e4.out e5.out e6.out]; simp), HI.out.f⟩
            · have k6 : (f6 != g6) = true := by simpa using e6
              replace e6 := hid e6
              go_wp2_with fail
              refine (HT.out _ _ HI.out _ _ _ (by first | omega | (simp only [List.length_append, List.length_cons, List.length_nil]; omega))).mono ?_
              rintro e w3 ⟨rfl, h3⟩
              clear xa za xb zb
              replace HI := hid h3
              clear h3
              go_wp2
              go_end0
              exact ⟨rfl, HI.out.s.is (by rw [HX.out, H2.out e1.out, H5.out e2.out e3.out, H8.out e4.out e5.out e6.out]; simp), HI.out.f⟩
          · rw [decide_eq_false e5] at s3
            replace e5 := hid e5
            go_wp2_with fail
            refine (HT.out _ _ HI.out _ _ _ (by first | omega | (simp only [List.length_append, List.length_cons, List.length_nil]; omega))).mono ?_
            rintro e w3 ⟨rfl, h3⟩
            clear xa za xb zb
            replace HI := hid h3
            clear h3
            go_wp2
            go_end0
            exact ⟨rfl, HI.out.s.is (by rw [HX.out, H2.out e1.out, H5.out e2.out e3.out, H7.out e4.out e5.out]; simp), HI.out.f⟩
        · have k4 : (f4 != g4) = true := by simpa using e4
          replace e4 := hid e4
          go_wp2_with fail
          have s_0 := HI.out.a.cell 0 _ rfl
          have s_1 := HI.out.a.cell 1 _ rfl
          have s_2 := HI.out.a.cell 2 _ rfl
          have s_3 := HI.out.a.cell 3 _ rfl
          have s_4 := HI.out.a.cell 4 _ rfl
          have s_5 := HI.out.a.cell 5 _ rfl
          have s_6 := HI.out.a.cell 6 _ rfl
          have s_7 := HI.out.b.cell 0 _ rfl
          have s_8 := HI.out.b.cell 1 _ rfl
          have s_9 := HI.out.b.cell 2 _ rfl
          have s_10 := HI.out.b.cell 3 _ rfl
          have s_11 := HI.out.b.cell 4 _ rfl
          have s_12 := HI.out.b.cell 5 _ rfl
          have s_13 := HI.out.b.cell 6 _ rfl
          go_region_held3 (fun W => W.cell? ⟨w.heap.size, 0, none⟩ = some (.string (strOfNums fn)) ∧ W.cell? ⟨w.heap.size, 1, none⟩ = some (.int .i64 f1) ∧ W.cell? ⟨w.heap.size, 2, none⟩ = some (.int .i64 f2) ∧ W.cell? ⟨w.heap.size, 3, none⟩ = some (.int .i64 f3) ∧ W.cell? ⟨w.heap.size, 4, none⟩ = some (.int .i64 f4) ∧ W.cell? ⟨w.heap.size, 5, none⟩ = some (.int .i64 f5) ∧ W.cell? ⟨w.heap.size, 6, none⟩ = some (.int .i64 f6) ∧ W.cell? ⟨w.heap.size + 1, 0, none⟩ = some (.string (strOfNums gn)) ∧ W.cell? ⟨w.heap.size + 1, 1, none⟩ = some (.int .i64 g1) ∧ W.cell? ⟨w.heap.size + 1, 2, none⟩ = some (.int .i64 g2) ∧ W.cell? ⟨w.heap.size + 1, 3, none⟩ = some (.int .i64 g3) ∧ W.cell? ⟨w.heap.size + 1, 4, none⟩ = some (.int .i64 g4) ∧ W.cell? ⟨w.heap.size + 1, 5, none⟩ = some (.int .i64 g5) ∧ W.cell? ⟨w.heap.size + 1, 6, none⟩ = some (.int .i64 g6)) (exact ⟨s_0, s_1, s_2, s_3, s_4, s_5, s_6, s_7, s_8, s_9, s_10, s_11, s_12, s_13⟩) (first | (go_at_call 89; refine (HR.out _).mono ?_; rintro e u1 ⟨rfl, hu1⟩; have HU := hid (below_trans (by first | exact below_drew1 _ | exact Below.refl _ _) hu1); replace s_0 := cell_below s_0 HU.out; replace s_1 := cell_below s_1 HU.out; replace s_2 := cell_below s_2 HU.out; replace s_3 := cell_below s_3 HU.out; replace s_4 := cell_below s_4 HU.out; replace s_5 := cell_below s_5 HU.out; replace s_6 := cell_below s_6 HU.out; replace s_7 := cell_below s_7 HU.out; replace s_8 := cell_below s_8 HU.out; replace s_9 := cell_below s_9 HU.out; replace s_10 := cell_below s_10 HU.out; replace s_11 := cell_below s_11 HU.out; replace s_12 := cell_below s_12 HU.out; replace s_13 := cell_below s_13 HU.out) | (go_at_call 61; refine (HV.out _ _).mono ?_; rintro e u2 ⟨rfl, rfl⟩) | (go_at_call 21; refine (HT.out _ _ (HI.out.kept (by first | exact below_drew1 _ | exact Below.refl _ _ | exact HU.out)) _ _ _ (by first | omega | (simp only [List.length_append, List.length_cons, List.length_nil]; omega))).mono ?_; rintro e w3 ⟨rfl, h3⟩; replace s_0 := h3.a.cell 0 _ rfl; replace s_1 := h3.a.cell 1 _ rfl; replace s_2 := h3.a.cell 2 _ rfl; replace s_3 := h3.a.cell 3 _ rfl; replace s_4 := h3.a.cell 4 _ rfl; replace s_5 := h3.a.cell 5 _ rfl; replace s_6 := h3.a.cell 6 _ rfl; replace s_7 := h3.b.cell 0 _ rfl; replace s_8 := h3.b.cell 1 _ rfl; replace s_9 := h3.b.cell 2 _ rfl; replace s_10 := h3.b.cell 3 _ rfl; replace s_11 := h3.b.cell 4 _ rfl; replace s_12 := h3.b.cell 5 _ rfl; replace s_13 := h3.b.cell 6 _ rfl; replace HI := hid h3))
          all_goals (go_wp2; go_end0; exact ⟨rfl, HI.out.s.is (by rw [HX.out, H2.out e1.out, H5.out e2.out e3.out, H6.out e4.out]; simp), HI.out.f⟩)
    · have k2 : (f2 != g2) = true := by simpa using e2
      replace e2 := hid e2
      go_wp2_with fail
      have s_0 := HI.out.a.cell 1 _ rfl
      have s_1 := HI.out.a.cell 2 _ rfl
      have s_2 := HI.out.b.cell 2 _ rfl
      go_region_held3 (fun W => W.cell? ⟨w.heap.size, 1, none⟩ = some (.int .i64 f1) ∧ W.cell? ⟨w.heap.size, 2, none⟩ = some (.int .i64 f2) ∧ W.cell? ⟨w.heap.size + 1, 2, none⟩ = some (.int .i64 g2)) (exact ⟨s_0, s_1, s_2⟩) (first | (go_at_call 12; refine (HW.out _).mono ?_; rintro e u1 ⟨rfl, rfl⟩) | (go_at_call 61; refine (HV.out _ _).mono ?_; rintro e u2 ⟨rfl, rfl⟩) | (go_at_call 21; refine (HT.out _ _ (HI.out.kept (by first | exact below_drew1 _ | exact Below.refl _ _ | exact HU.out)) _ _ _ (by first | omega | (simp only [List.length_append, List.length_cons, List.length_nil]; omega))).mono ?_; rintro e w2 ⟨rfl, h2⟩; replace s_0 := h2.a.cell 1 _ rfl; replace s_1 := h2.a.cell 2 _ rfl; replace s_2 := h2.b.cell 2 _ rfl; replace HI := hid h2))
      clear xa za xb zb
      have xa := HI.out.a.cellF
      have za := HI.out.a.lt
      have xb := HI.out.b.cellF
      have zb := HI.out.b.lt
      by_cases e4 : f4 = g4
      · have k4 : (f4 != g4) = false := by simpa using e4
        replace e4 := hid e4
        by_cases e5 : fo = go
        · rw [decide_eq_true e5] at s3
          replace e5 := hid e5
          by_cases e6 : f6 = g6
          · have k6 : (f6 != g6) = false := by simpa using e6
            replace e6 := hid e6
            go_wp2
            go_end0
            exact ⟨rfl, HI.out.s.is (by rw [HX.out, H2.out e1.out, H3.out e2.out, H9.out e4.out e5.out e6.out]; simp), HI.out.f⟩
          · have k6 : (f6 != g6) = true := by simpa using e6
            replace e6 := hid e6
            go_wp2_with fail
            refine (HT.out _ _ HI.out _ _ _ (by first | omega | (simp only [List.length_append, List.length_cons, List.length_nil]; omega))).mono ?_
            rintro e w3 ⟨rfl, h3⟩
            clear xa za xb zb
            replace HI := hid h3
            clear h3
            go_wp2
            go_end0
            exact ⟨rfl, HI.out.s.is (by rw [HX.out, H2.out e1.out, H3.out e2.out, H8.out e4.out e5.out e6.out]; simp), HI.out.f⟩
        · rw [decide_eq_false e5] at s3
          replace e5 := hid e5
          go_wp2_with fail
          refine (HT.out _ _ HI.out _ _ _ (by first | omega | (simp only [List.length_append, List.length_cons, List.length_nil]; omega))).mono ?_
          rintro e w3 ⟨rfl, h3⟩
          clear xa za xb zb
          replace HI := hid h3
          clear h3
          go_wp2
          go_end0
          exact ⟨rfl, HI.out.s.is (by rw [HX.out, H2.out e1.out, H3.out e2.out, H7.out e4.out e5.out]; simp), HI.out.f⟩
      · have k4 : (f4 != g4) = true := by simpa using e4
        replace e4 := hid e4
        go_wp2_with fail
        have s_0 := HI.out.a.cell 0 _ rfl
        have s_1 := HI.out.a.cell 1 _ rfl
        have s_2 := HI.out.a.cell 2 _ rfl
        have s_3 := HI.out.a.cell 3 _ rfl
        have s_4 := HI.out.a.cell 4 _ rfl
        have s_5 := HI.out.a.cell 5 _ rfl
        have s_6 := HI.out.a.cell 6 _ rfl
        have s_7 := HI.out.b.cell 0 _ rfl
        have s_8 := HI.out.b.cell 1 _ rfl
        have s_9 := HI.out.b.cell 2 _ rfl
        have s_10 := HI.out.b.cell 3 _ rfl
        have s_11 := HI.out.b.cell 4 _ rfl
        have s_12 := HI.out.b.cell 5 _ rfl
        have s_13 := HI.out.b.cell 6 _ rfl
        go_region_held3 (fun W => W.cell? ⟨w.heap.size, 0, none⟩ = some (.string (strOfNums fn)) ∧ W.cell? ⟨w.heap.size, 1, none⟩ = some (.int .i64 f1) ∧ W.cell? ⟨w.heap.size, 2, none⟩ = some (.int .i64 f2) ∧ W.cell? ⟨w.heap.size, 3, none⟩ = some (.int .i64 f3) ∧ W.cell? ⟨w.heap.size, 4, none⟩ = some (.int .i64 f4) ∧ W.cell? ⟨w.heap.size, 5, none⟩ = some (.int .i64 f5) ∧ W.cell? ⟨w.heap.size, 6, none⟩ = some (.int .i64 f6) ∧ W.cell? ⟨w.heap.size + 1, 0, none⟩ = some (.string (strOfNums gn)) ∧ W.cell? ⟨w.heap.size + 1, 1, none⟩ = some (.int .i64 g1) ∧ W.cell? ⟨w.heap.size + 1, 2, none⟩ = some (.int .i64 g2) ∧ W.cell? ⟨w.heap.size + 1, 3, none⟩ = some (.int .i64 g3) ∧ W.cell? ⟨w.heap.size + 1, 4, none⟩ = some (.int .i64 g4) ∧ W.cell? ⟨w.heap.size + 1, 5, none⟩ = some (.int .i64 g5) ∧ W.cell? ⟨w.heap.size + 1, 6, none⟩ = some (.int .i64 g6)) (exact ⟨s_0, s_1, s_2, s_3, s_4, s_5, s_6, s_7, s_8, s_9, s_10, s_11, s_12, s_13⟩) (first | (go_at_call 89; refine (HR.out _).mono ?_; rintro e u1 ⟨rfl, hu1⟩; have HU := hid (below_trans (by first | exact below_drew1 _ | exact Below.refl _ _) hu1); replace s_0 := cell_below s_0 HU.out; replace s_1 := cell_below s_1 HU.out; replace s_2 := cell_below s_2 HU.out; replace s_3 := cell_below s_3 HU.out; replace s_4 := cell_below s_4 HU.out; replace s_5 := cell_below s_5 HU.out; replace s_6 := cell_below s_6 HU.out; replace s_7 := cell_below s_7 HU.out; replace s_8 := cell_below s_8 HU.out; replace s_9 := cell_below s_9 HU.out; replace s_10 := cell_below s_10 HU.out; replace s_11 := cell_below s_11 HU.out; replace s_12 := cell_below s_12 HU.out; replace s_13 := cell_below s_13 HU.out) | (go_at_call 61; refine (HV.out _ _).mono ?_; rintro e u2 ⟨rfl, rfl⟩) | (go_at_call 21; refine (HT.out _ _ (HI.out.kept (by first | exact below_drew1 _ | exact Below.refl _ _ | exact HU.out)) _ _ _ (by first | omega | (simp only [List.length_append, List.length_cons, List.length_nil]; omega))).mono ?_; rintro e w3 ⟨rfl, h3⟩; replace s_0 := h3.a.cell 0 _ rfl; replace s_1 := h3.a.cell 1 _ rfl; replace s_2 := h3.a.cell 2 _ rfl; replace s_3 := h3.a.cell 3 _ rfl; replace s_4 := h3.a.cell 4 _ rfl; replace s_5 := h3.a.cell 5 _ rfl; replace s_6 := h3.a.cell 6 _ rfl; replace s_7 := h3.b.cell 0 _ rfl; replace s_8 := h3.b.cell 1 _ rfl; replace s_9 := h3.b.cell 2 _ rfl; replace s_10 := h3.b.cell 3 _ rfl; replace s_11 := h3.b.cell 4 _ rfl; replace s_12 := h3.b.cell 5 _ rfl; replace s_13 := h3.b.cell 6 _ rfl; replace HI := hid h3))
        all_goals (go_wp2; go_end0; exact ⟨rfl, HI.out.s.is (by rw [HX.out, H2.out e1.out, H3.out e2.out, H6.out e4.out]; simp), HI.out.f⟩)
set_option maxHeartbeats 1000000
def syI (n : Int) (s : SY) : Bool := s.num == n
theorem symNFn (w : World) (s : SY) (p : Nat) (n : Int) (hp : Blk w p 3 #[.int .i64 n]) : Calls Tryz.prog 88 #[.agg #[.string (strOfNums s.name), .int .i64 s.num], .pointer (some ⟨p, 0, none⟩)] w fun e w' => e = .returned (.bool (syI n s)) ∧ Below w.heap.size w w' := by
  have HX : Hid ((s.num == n) = syI n s) := hid rfl
  have x1 := hp.cellF
  have z1 := hp.lt
  go_enter Tryz.func88, Tryz.ntmps88
  go_wp2
  go_ret
  exact ⟨ret_bool HX.out, by exact blBy⟩
theorem idxSymE (w : World) (xs : List SY) (a : Option Addr) (c : Nat) (h : RowS w AnyZ 2 (.slice a xs.length c) xs.length (xs.flatMap cSY)) (p : Nat) (n : Int) (hp : Blk w p 3 #[.int .i64 n]) : Calls Tryz.prog 120 #[.slice a xs.length c, .func (.func 88) #[] #[.pointer (some ⟨p, 0, none⟩)]] w fun e w' => e = .returned (.int .i64 (fnd (syI n) xs 0)) ∧ Below w.heap.size w w' := by
  obtain ⟨_, _, e1, l1⟩ := rowS_sl h
  clear e1
  have m1 : (xs.length : Int) ≤ 9223372036854775807 := by omega
  have H1 := hid h
  have HP := hid hp
  clear h hp
  go_enter Tryz.func120, Tryz.ntmps120
  go_wp2
  go_loopw [8] (fun r wr => ∃ j : Nat, r = .int .i64 j ∧ j ≤ xs.length ∧ Hid (fnd (syI n) xs 0 = fnd (syI n) (xs.drop j) j) ∧ Hid (Below w.heap.size w wr)) (fun r wr => xs.length - numAt wr r)
  case atStart => exact ⟨0, rfl, by omega, hid rfl, hid (Below.refl _ _)⟩
  case round =>
    obtain ⟨j, rfl, hj, hf, hb⟩ := hrel
    by_cases hlt : j < xs.length
    · have h2 : (j : Int) < (xs.length : Int) := by omega
      obtain ⟨b1, o1, rfl, hb1, c0, c1⟩ := rowY (H1.out.kept hb.out) hlt
      have HST := hid (fnd_at (p := syI n) hlt)
      generalize xs[j] = s at *
      go_wp2_with fail
      refine (symNFn _ s p n (HP.out.kept (by have := hb.out; exact blBy))).mono ?_
      rintro e w1 ⟨rfl, hb1⟩
      have HB1 : Hid (Below w.heap.size w w1) := hid (bl_then (by have := hb.out; exact blBy) hb1)
      clear hb1
      cases hq : syI n s with
      | true =>
        go_wp2
        go_ret
        exact ⟨ret_int (by rw [hf.out, HST.out, hq]; simp), HB1.out⟩
      | false =>
        go_wp2
        exact ⟨⟨j + 1, by simp, by omega, hid (by rw [hf.out, HST.out, hq]; simp), HB1⟩, by simp [numAt]; omega⟩
    · have h2 : ¬ (j : Int) < (xs.length : Int) := by omega
      have HE : Hid (fnd (syI n) xs 0 = -1) := hid (by rw [hf.out, List.drop_of_length_le (by omega)]; rfl)
      go_wp2
      go_ret
      exact ⟨ret_int (by rw [HE.out]), hb.out⟩
/-- What firstOf answers. -/
def tSE (o : Option SY) : Value := match o with
  | some s => .tuple #[.agg #[.string (strOfNums s.name), .int .i64 s.num], .bool true]
  | none => .tuple #[.agg #[.string ⟨#[]⟩, .int .i64 0], .bool false]
theorem firstSE (w : World) (xs : List SY) (a : Option Addr) (c : Nat) (h : RowS w AnyZ 2 (.slice a xs.length c) xs.length (xs.flatMap cSY)) (fv : Value) (P : SY → Bool)
    (hidx : ∀ W, Below w.heap.size w W → Calls Tryz.prog 120 #[.slice a xs.length c, fv] W fun e w' => e = .returned (.int .i64 (fnd P xs 0)) ∧ Below W.heap.size W w') : Calls Tryz.prog 108 #[.slice a xs.length c, fv] w fun e w' => e = .returned (tSE (xs.find? P)) ∧ Below w.heap.size w w' := by
  obtain ⟨_, _, e1, l1⟩ := rowS_sl h
  clear e1
  have m1 : (xs.length : Int) ≤ 9223372036854775807 := by omega
  have HI := hid hidx
  rcases fnd_find P xs 0 with ⟨hq, hf⟩ | ⟨j, hj, hq, hf⟩
  · rw [fnd_ge P xs 0 hq] at HI
    rw [hf]
    clear h hidx hq hf
    go_enter Tryz.func108, Tryz.ntmps108
    go_wp2_with fail
    refine (HI.out _ (by first | exact Below.refl _ _ | exact blBy)).mono ?_
    rintro e w1 ⟨rfl, hb1⟩
    have hb : Hid (Below w.heap.size w w1) := hid (bl_then (by exact blBy) hb1)
    have Br : Blk w1 w.heap.size 77 #[.string ⟨#[]⟩, .int .i64 0] := (Blk.new _ _ _).kept hb1
    have xr := Br.cellF
    have yr := Br.frz
    have zr := Br.lt
    clear hb1
    go_wp2
    exact bodyPost_ret (v := .tuple #[.agg #[.string ⟨#[]⟩, .int .i64 0], .bool false]) (by simp [results, Tryz.results108, go_sem, xr, zr, yr]) rfl ⟨rfl, by have := hb.out; exact blBy⟩
  · rw [hq] at HI
    rw [hf]
    simp only [Nat.zero_add] at HI
    have HY := hid fun W (hW : Below w.heap.size w W) => rowY (h.kept hW) hj
    have r1 : ((j : Int) < 0) = False := eq_false (by omega)
    have r2 : (j : Int) < (xs.length : Int) := by omega
    clear h hidx hq hf
    generalize xs[j] = s at *
    go_enter Tryz.func108, Tryz.ntmps108
    go_wp2_with fail
    refine (HI.out _ (by first | exact Below.refl _ _ | exact blBy)).mono ?_
    rintro e w1 ⟨rfl, hb1⟩
    have hb : Hid (Below w.heap.size w w1) := hid (bl_then (by exact blBy) hb1)
    obtain ⟨b, o, rfl, hbl, c0, c1⟩ := HY.out _ hb.out
    have Br : Blk w1 w.heap.size 77 #[.string ⟨#[]⟩, .int .i64 0] := (Blk.new _ _ _).kept hb1
    have xr := Br.cellF
    have yr := Br.frz
    have zr := Br.lt
    clear hb1
    go_wp2
    exact bodyPost_ret (v := .tuple #[.agg #[.string (strOfNums s.name), .int .i64 s.num], .bool true]) (by simp [results, Tryz.results108, go_sem, xr, zr, yr]) rfl ⟨rfl, by have := hb.out; exact blBy⟩
theorem symbolOfE (w : World) (t : TT) (fa oa sa ra : Option Addr) (fc oc sc rc : Nat) (h : RowS w AnyZ 2 (.slice sa t.ss.length sc) t.ss.length (t.ss.flatMap cSY)) (n : Int) : Calls Tryz.prog 56 #[.agg #[.string (strOfNums t.name), .bool t.enum, .slice fa t.fs.length fc, .slice oa t.os.length oc, .slice sa t.ss.length sc, .slice ra t.rs.length rc], .int .i64 n] w fun e w' => e = .returned (tSE (t.ss.find? (syI n))) ∧ Below w.heap.size w w' := by
  have HS : Hid (∀ W p, Below w.heap.size w W → Blk W p 3 #[.int .i64 n] → Calls Tryz.prog 87 #[.agg #[.string (strOfNums t.name), .bool t.enum, .slice fa t.fs.length fc, .slice oa t.os.length oc, .slice sa t.ss.length sc, .slice ra t.rs.length rc], .func (.func 88) #[] #[.pointer (some ⟨p, 0, none⟩)]] W fun e w' => e = .returned (tSE (t.ss.find? (syI n))) ∧ Below W.heap.size W w') := hid fun W p hW hp => by
    have HF := hid fun V (hV : Below W.heap.size W V) => firstSE V t.ss sa sc (h.kept (below_trans hW hV)) (.func (.func 88) #[] #[.pointer (some ⟨p, 0, none⟩)]) (syI n) (fun U hU => idxSymE U t.ss sa sc (h.kept (below_trans (below_trans hW hV) hU)) p n (hp.kept (below_trans hV hU)))
    clear h hp
    rcases hq : t.ss.find? (syI n) with _ | s
    · rw [hq] at HF
      dsimp only [tSE] at HF ⊢
      go_enter Tryz.func87, Tryz.ntmps87
      go_wp2_with fail
      refine (HF.out _ (by exact blBy)).mono ?_
      rintro e w1 ⟨rfl, hb1⟩
      have hb : Hid (Below W.heap.size W w1) := hid (bl_then (by exact blBy) hb1)
      have Br : Blk w1 (W.heap.size + 1) 77 #[.string ⟨#[]⟩, .int .i64 0] := (Blk.newAt (by simp)).kept hb1
      have xr := Br.cellF
      have yr := Br.frz
      have zr := Br.lt
      clear hb1
      go_wp2
      exact bodyPost_ret (v := .tuple #[.agg #[.string ⟨#[]⟩, .int .i64 0], .bool false]) (by simp [results, Tryz.results87, go_sem, xr, zr, yr]) rfl ⟨rfl, by have := hb.out; exact blBy⟩
    · rw [hq] at HF
      dsimp only [tSE] at HF ⊢
      go_enter Tryz.func87, Tryz.ntmps87
      go_wp2_with fail
      refine (HF.out _ (by exact blBy)).mono ?_
      rintro e w1 ⟨rfl, hb1⟩
      have hb : Hid (Below W.heap.size W w1) := hid (bl_then (by exact blBy) hb1)
      have Br : Blk w1 (W.heap.size + 1) 77 #[.string ⟨#[]⟩, .int .i64 0] := (Blk.newAt (by simp)).kept hb1
      have xr := Br.cellF
      have yr := Br.frz
      have zr := Br.lt
      clear hb1
      go_wp2
      exact bodyPost_ret (v := .tuple #[.agg #[.string (strOfNums s.name), .int .i64 s.num], .bool true]) (by simp [results, Tryz.results87, go_sem, xr, zr, yr]) rfl ⟨rfl, by have := hb.out; exact blBy⟩
  clear h
  rcases hq : t.ss.find? (syI n) with _ | s
  · rw [hq] at HS
    dsimp only [tSE] at HS ⊢
    go_enter Tryz.func56, Tryz.ntmps56
    go_wp2_with fail
    refine (HS.out _ _ (by exact blBy) ((Blk.newAt (by simp)).kept (below_alloc _))).mono ?_
    rintro e w1 ⟨rfl, hb1⟩
    have hb : Hid (Below w.heap.size w w1) := hid (bl_then (by exact blBy) hb1)
    have Br : Blk w1 (w.heap.size + 1 + 1) 77 #[.string ⟨#[]⟩, .int .i64 0] := (Blk.newAt (by simp)).kept hb1
    have xr := Br.cellF
    have yr := Br.frz
    have zr := Br.lt
    clear hb1
    go_wp2
    exact bodyPost_ret (v := .tuple #[.agg #[.string ⟨#[]⟩, .int .i64 0], .bool false]) (by simp [results, Tryz.results56, go_sem, xr, zr, yr]) rfl ⟨rfl, by have := hb.out; exact blBy⟩
  · rw [hq] at HS
    dsimp only [tSE] at HS ⊢
    go_enter Tryz.func56, Tryz.ntmps56
    go_wp2_with fail
    refine (HS.out _ _ (by exact blBy) ((Blk.newAt (by simp)).kept (below_alloc _))).mono ?_
    rintro e w1 ⟨rfl, hb1⟩
    have hb : Hid (Below w.heap.size w w1) := hid (bl_then (by exact blBy) hb1)
    have Br : Blk w1 (w.heap.size + 1 + 1) 77 #[.string ⟨#[]⟩, .int .i64 0] := (Blk.newAt (by simp)).kept hb1
    have xr := Br.cellF
    have yr := Br.frz
    have zr := Br.lt
    clear hb1
    go_wp2
    exact bodyPost_ret (v := .tuple #[.agg #[.string (strOfNums s.name), .int .i64 s.num], .bool true]) (by simp [results, Tryz.results56, go_sem, xr, zr, yr]) rfl ⟨rfl, by have := hb.out; exact blBy⟩
/-- A field of a number, or none. -/
def fdI (n : Int) (f : FT) : Bool := f.num == n
def tFE (o : Option FT) : Value := match o with
  | some f => .tuple #[aFT f, .bool true]
  | none => .tuple #[.agg #[.string ⟨#[]⟩, .int .i64 0, .int .i64 0, .int .i64 0, .int .i64 0, .int .i64 0, .int .i64 0], .bool false]
theorem findFE (w : World) (fs : List FT) (a : Option Addr) (c : Nat) (h : RowS w AnyZ 7 (.slice a fs.length c) fs.length (fs.flatMap cFT)) (hr : Rise fs) (hl : fs.length ≤ 128) (n : Int) : Calls Tryz.prog 48 #[.slice a fs.length c, .int .i64 n] w fun e w' => e = .returned (tFE (fs.find? (fdI n))) ∧ Below w.heap.size w w' := by
  rcases fnd_find (fdI n) fs 0 with ⟨_, hf⟩ | ⟨j, hj, _, hf⟩
  · rw [hf]
    refine fieldOfNo fs n w a c h hr hl (fun f hf' e => ?_)
    have := List.find?_eq_none.1 hf f hf'
    exact this (by simp [fdI, e])
  · rw [hf]
    have : fs[j].num = n := by
      have := List.find?_some hf
      simpa [fdI] using this
    exact fieldOfOk fs n w a c h hr hl j hj this
/-- The numbers that fields have now and had not. -/
def frshL (xs ys : List FT) : List Int := (ys.filter (fun f => (xs.find? (fdI f.num)).isNone)).map FT.num
theorem frsh_snoc (xs ys : List FT) (j : Nat) (hj : j < ys.length) : frshL xs (ys.take (j + 1)) = frshL xs (ys.take j) ++ (if (xs.find? (fdI ys[j].num)).isNone = true then [ys[j].num] else []) := by
  unfold frshL
  rw [List.take_succ_eq_append_getElem hj, List.filter_append, List.map_append]
  congr 1
  by_cases h : (xs.find? (fdI ys[j].num)).isNone = true
  · rw [if_pos h]; simp only [List.filter_cons, h, if_true, List.filter_nil, List.map_cons, List.map_nil]
  · rw [if_neg h]
    have h' : (xs.find? (fdI ys[j].num)).isNone = false := by simpa using h
    simp only [List.filter_cons, h', Bool.false_eq_true, if_false, List.filter_nil, List.map_nil]
theorem frsh_le (xs ys : List FT) : (frshL xs ys).length ≤ ys.length := by
  unfold frshL
  rw [List.length_map]
  exact List.length_filter_le _ _
theorem freshT18 (w : World) (xs ys : List FT) (a b : Option Addr) (c d : Nat) (hx : RowS w AnyZ 7 (.slice a xs.length c) xs.length (xs.flatMap cFT)) (hy : RowS w AnyZ 7 (.slice b ys.length d) ys.length (ys.flatMap cFT)) (hr : Rise xs) (hl : xs.length ≤ 128) (hl2 : ys.length ≤ 128) : Calls Tryz.prog 33 #[.slice a xs.length c, .slice b ys.length d] w fun e w' => ∃ va vc, e = .returned (.slice va (frshL xs ys).length vc) ∧ w'.ownsRow w.heap.size 3 1 (.slice va (frshL xs ys).length vc) (frshL xs ys).length ((frshL xs ys).flatMap cI64) ∧ Below w.heap.size w w' := by
  have m1 : (ys.length : Int) ≤ 9223372036854775807 := by omega
  have HY := hid hy
  have HF := hid fun W (hW : Below w.heap.size w W) n => findFE W xs a c (hx.kept hW) hr hl n
  clear hx hy hr
  go_enter Tryz.func33, Tryz.ntmps33
  go_wp2
  go_loopw [5, 12] (fun v r wr => ∃ (j : Nat) (va : Option Addr) (vn vc : Nat), v = .slice va vn vc ∧ r = .int .i64 j ∧ j ≤ ys.length ∧ Hid (vn = (frshL xs (ys.take j)).length) ∧ Hid (wr.ownsRow w.heap.size 3 1 (.slice va vn vc) (frshL xs (ys.take j)).length ((frshL xs (ys.take j)).flatMap cI64)) ∧ Hid (Below w.heap.size w wr)) (fun _ r wr => ys.length - numAt wr r)
  case atStart => exact ⟨0, none, 0, 0, rfl, rfl, by omega, hid rfl, hid (World.ownsRow_nil _ _ _ _), hid (Below.refl _ _)⟩
  case round =>
    obtain ⟨j, va, vn, vc, rfl, rfl, hj, HN, HV, hb⟩ := hrel
    by_cases hlt : j < ys.length
    · have h2 : (j : Int) < (ys.length : Int) := by omega
      obtain ⟨b1, o1, rfl, hb1, c0, c1, c2, c3, c4, c5, c6⟩ := row7 (HY.out.kept hb.out) hlt
      have HS := hid (frsh_snoc xs ys j hlt)
      have HLE : Hid ((frshL xs (ys.take j)).length ≤ 4000000) := hid (by have := frsh_le xs (ys.take j); rw [List.length_take] at this; omega)
      generalize ys[j] = f at *
      obtain ⟨n1, f1, f2, f3, f4, f5, f6⟩ := f
      dsimp only at c0 c1 c2 c3 c4 c5 c6 HS
      go_wp2_with fail
      refine (HF.out _ (by have := hb.out; exact blBy) _).mono ?_
      rintro e w1 ⟨rfl, hb1⟩
      have B1 : Blk w1 wr.heap.size 79 #[.string (strOfNums n1), .int .i64 f1, .int .i64 f2, .int .i64 f3, .int .i64 f4, .int .i64 f5, .int .i64 f6] := (Blk.new _ _ _).kept hb1
      have x1 := B1.cellF
      have y1 := B1.frz
      have z1 := B1.lt
      have HB1 : Hid (Below wr.heap.size wr w1) := hid (bl_then (by exact blBy) hb1)
      clear hb1 B1
      cases hq : xs.find? (fdI f1) with
      | some g =>
        rw [hq] at HS
        obtain ⟨g0, g1, g2, g3, g4, g5, g6⟩ := g
        dsimp only [tFE, aFT]
        have HS2 := hid (show frshL xs (ys.take (j + 1)) = frshL xs (ys.take j) by rw [HS.out]; simp)
        go_wp2
        exact ⟨⟨j + 1, va, vn, vc, rfl, by simp, by omega, hid (by rw [HS2.out]; exact HN.out), hid (by rw [HS2.out]; exact own_kept HV.out (by have := HB1.out; exact blBy)), hid (by have := bl_then hb.out HB1.out; exact blBy)⟩, by simp [numAt]; omega⟩
      | none =>
        rw [hq] at HS
        dsimp only [tFE]
        have HS2 := hid (show frshL xs (ys.take (j + 1)) = frshL xs (ys.take j) ++ [f1] by rw [HS.out]; simp)
        obtain ⟨a5, c5, w5, HRUN, HO5, HG5⟩ := appendIn w.heap.size (.slice va vn vc) (frshL xs (ys.take j)) f1 (w1.alloc (.cells #[.string ⟨#[]⟩, .int .i64 0, .int .i64 0, .int .i64 0, .int .i64 0, .int .i64 0, .int .i64 0] 79)) (own_kept HV.out (by have := HB1.out; exact blBy)) (by have := (bl_then hb.out HB1.out).size; simp; omega) HLE.out
        rw [← HN.out] at HRUN HO5 HG5
        have eN : (frshL xs (ys.take j)).length = vn := HN.out.symm
        simp only [World.size_alloc] at HRUN
        go_wp2_with (first | (at_builtin; refine wpList_append_ran rfl _ _ 36 36 rfl rfl _ _ (.slice a5 (vn + 1) c5) w5 rfl rfl HRUN.out ?_))
        exact ⟨⟨j + 1, a5, vn + 1, c5, rfl, by simp, by omega, hid (by rw [HS2.out, List.length_append, HN.out]; rfl), hid (by rw [HS2.out]; exact HO5.out), hid (by have := HG5.out; have h7 := bl_then hb.out HB1.out; exact Below.trans (by exact blBy : Below w.heap.size w (w1.alloc _)) (Grow.below HG5.out (by simp; have := h7.size; omega) (fun k hk => (own_type HV.out hk).1)))⟩, by simp [numAt]; omega⟩
    · have h2 : ¬ (j : Int) < (ys.length : Int) := by omega
      have HE : Hid (ys.take j = ys) := hid (List.take_of_length_le (by omega))
      go_wp2
      go_ret
      rw [HE.out] at HN HV
      rw [HN.out] at HV ⊢
      exact ⟨va, vc, rfl, HV.out, hb.out⟩
end Go.Proofs.YtmjgonckadcbkaaGreatDoor
