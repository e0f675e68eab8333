/-
  While the document's member builds a declaration.
  The document's member: a map's field; a field.
-/
import Derived.Test.YtidimdbnnnpplaaGreatDoorCRT
import Derived.Test.YtidimdbnnnpplaaGreatDoorCPE
import Derived.Deep.RegionHeld3
import Derived.Test.YtidimdbnnnpplaaGreatDoorCRF
import Derived.Deep.CutRange
namespace Go.Proofs.YtidimdbnnnpplaaGreatDoor
open Go.RowKit
set_option maxRecDepth 1000000
set_option linter.unusedVariables false
set_option linter.unusedSimpArgs false
set_option maxHeartbeats 8000000
def zRr : Value := .agg #[.int .u64 0, .int .u64 0, .int .i64 0, .int .i64 0]
def zOr : Value := .agg #[.string ⟨#[]⟩, .int .i64 0, .int .i64 0]
def zFr : Value := .agg #[.string ⟨#[]⟩, .string ⟨#[]⟩, .string ⟨#[]⟩, .int .u64 0, .int .i64 0, .int .i64 0, .int .i64 0, .int .i64 0, .int .i64 0, .int .i64 0, .int .i64 0, .int .i64 0, .int .i64 0, .int .i64 0, .int .i64 0]
theorem growR_blk {w w' : World} {v v' : Value} {base e size n : Nat} {fl : List Value} (g : Grow w w' v v') (ho : w.ownsRow base e size v n fl) {p : Nat} {t : TypeId} {cs : Array Value} (h : Blk w p t cs) (hne : t ≠ e) : Blk w' p t cs := by
  refine h.keep (Keep.ofGrow (f := fun k => v.ownBlock ≠ some k) g (fun _ hk => hk)) ?_
  intro hk
  obtain ⟨_, _, cur, hc⟩ := own_type ho hk
  rw [show w.heap[p]? = _ from h] at hc
  cases hc
  exact hne rfl
theorem isR_other {s : PS} {x y : List Int} (h : isM s x = true) (hne : x ≠ y) : isM s y = false := by
  obtain ⟨_, _, h3⟩ := is_parts h
  unfold isM
  rw [h3]
  simp [hne]
theorem rngLr_go {l : List MR} {s : PS} (h : isM s [44] = true) : rngL (l, s) = rngL (l ++ [(rngM (eatM s [44])).1], (rngM (eatM s [44])).2) := by
  unfold rngL
  exact whM_go (p := fun x : List MR × PS => x.2) (x := (l, s)) rng_dec h
theorem rngLr_stop {l : List MR} {s : PS} (h : isM s [44] = false) : rngL (l, s) = (l, s) := by
  unfold rngL
  exact whM_stop h
theorem rowRS_nil (w : World) (Z : Nat → Prop) (k : Nat) : RowS w Z k (.slice none 0 0) 0 [] := ⟨none, 0, rfl, by simp, Nat.le_refl _, by omega, .inl ⟨rfl, fun _ => rfl⟩⟩
theorem below_twor {w : World} (o o' : Obj) : Below w.heap.size w ((w.alloc o).alloc o') := below_trans (below_alloc o) (below_alloc o')
def zDr : Value := .agg #[.bool false, .string ⟨#[]⟩, .int .i64 0, .int .i64 0, .slice none 0 0, .slice none 0 0, .slice none 0 0, .slice none 0 0, .slice none 0 0]
theorem Tryz.infoRr : (Tryz.prog.info? 136).map (fun i => (i.zero, i.size, i.bytes)) = some (some zRr, 4, 32) := by kernel_rfl
theorem Tryz.infoOr : (Tryz.prog.info? 139).map (fun i => (i.zero, i.size, i.bytes)) = some (some zOr, 3, 32) := by kernel_rfl
theorem Tryz.infoFr : (Tryz.prog.info? 78).map (fun i => (i.zero, i.size, i.bytes)) = some (some zFr, 15, 144) := by kernel_rfl
theorem Tryz.infoDr : (Tryz.prog.info? 74).map (fun i => (i.zero, i.size, i.bytes)) = some (some zDr, 9, 160) := by kernel_rfl
structure Mem (w0 : World) (b : Nat) (ws : World) (base n : Nat) (wr : World) (o c : Nat) (s : PS) (x : DV) : Prop where
  st : StR w0 b o c s
  u0 : Below w0.heap.size w0 ws
  hw : w0.heap.size ≤ base
  fr : Keep (· < base) ws wr
  sb : Blk wr ws.heap.size 54 #[.slice (some ⟨b, o, none⟩) s.l.length c, .int .i64 s.cd, .int .i64 0, .int .i64 s.ln, .int .i64 s.cl]
  db : Blk wr (ws.heap.size + 1) 74 #[.bool x.d.enum, .string (strOfNums x.d.name), .int .i64 x.d.at1.1, .int .i64 x.d.at1.2, x.f, x.o, x.dd, x.r, x.s]
  r6 : Blk wr (ws.heap.size + 1 + 1) 74 #[.bool false, .string ⟨#[]⟩, .int .i64 0, .int .i64 0, .slice none 0 0, .slice none 0 0, .slice none 0 0, .slice none 0 0, .slice none 0 0]
  r7 : Blk wr (ws.heap.size + 1 + 1 + 1) 54 #[.slice none 0 0, .int .i64 0, .int .i64 0, .int .i64 0, .int .i64 0]
  own : OwnD wr base n 78 139 74 136 126 (fun k => ws.heap.size ≤ k ∧ k < ws.heap.size + 4) x
  lo : base ≤ ws.heap.size
section
variable {w0 : World} {b : Nat} {ws : World} {base n : Nat} {wr w' : World} {o c o' c' : Nat} {s s' : PS} {x : DV}
theorem OwnD.withE {w : World} {tF tO tD tR tS : TypeId} (h : OwnD w base n tF tO tD tR tS (fun _ => False) x) {E : Nat → Prop} (g : Below w.heap.size w w') (h1 : ∀ k, E k → w.heap.size ≤ k ∧ k < w'.heap.size) : OwnD w' base n tF tO tD tR tS E x := by
  have h' := h.kept g
  have hl := fun k (hk : x.mine k) => h.lt hk
  obtain ⟨Z, dvs, e, hd, hz, hm, hy⟩ := h.dd
  refine ⟨h'.f, h'.o, h'.r, h'.s, ⟨Z, dvs, e, own_kept hd g, fun k hk => ⟨(hz k hk).1, Nat.lt_of_lt_of_le (hz k hk).2 g.size⟩, fun k hk hZ => ?_, fun y hy' => RD.keep (Keep.ofBelow (f := fun _ => True) g) (fun _ _ => trivial) n y (hy y hy')⟩, fun k hk hE => ?_, fun k hk => (h1 k hk).2⟩
  · rcases hk with hk | hk
    · exact hm k (.inl hk) hZ
    · have := (h1 k hk).1; have := (hz k hZ).2; omega
  · have := (h1 k hE).1; have := (hl k hk).2; omega
theorem OwnD.noE {w : World} {tF tO tD tR tS : TypeId} {E : Nat → Prop} (h : OwnD w base n tF tO tD tR tS E x) : OwnD w base n tF tO tD tR tS (fun _ => False) x := by
  obtain ⟨Z, dvs, e, hd, hz, hm, hy⟩ := h.dd
  exact ⟨h.f, h.o, h.r, h.s, ⟨Z, dvs, e, hd, hz, fun k hk => hm k (hk.elim .inl False.elim), hy⟩, fun _ _ => id, fun _ h => h.elim⟩
/-- What member answers. -/
def MemR (w0 : World) (b base n : Nat) (m : MD × PS) (w : World) (e : Ending) (w' : World) : Prop := ∃ x' s' o c, Hid (x'.d = m.1) ∧ Hid (s' = m.2) ∧ e = .returned (.tuple #[.agg #[.bool x'.d.enum, .string (strOfNums x'.d.name), .int .i64 x'.d.at1.1, .int .i64 x'.d.at1.2, x'.f, x'.o, x'.dd, x'.r, x'.s], .agg #[.slice (some ⟨b, o, none⟩) s'.l.length c, .int .i64 s'.cd, .int .i64 0, .int .i64 s'.ln, .int .i64 s'.cl]]) ∧ Hid (OwnD w' base n 78 139 74 136 126 (fun _ => False) x') ∧ Hid (StR w0 b o c s') ∧ Keep (· < base) w w'
theorem MemR.is {w : World} {m : MD × PS} {e : Ending} (x' : DV) (s' : PS) (o c : Nat) (h1 : Hid (x'.d = m.1)) (h2 : Hid (s' = m.2)) (h3 : e = .returned (.tuple #[.agg #[.bool x'.d.enum, .string (strOfNums x'.d.name), .int .i64 x'.d.at1.1, .int .i64 x'.d.at1.2, x'.f, x'.o, x'.dd, x'.r, x'.s], .agg #[.slice (some ⟨b, o, none⟩) s'.l.length c, .int .i64 s'.cd, .int .i64 0, .int .i64 s'.ln, .int .i64 s'.cl]])) (h4 : Hid (OwnD w' base n 78 139 74 136 126 (fun _ => False) x')) (h5 : Hid (StR w0 b o c s')) (h6 : Keep (· < base) w w') : MemR w0 b base n m w e w' := ⟨x', s', o, c, h1, h2, h3, h4, h5, h6⟩
theorem OwnD.ddS {w : World} {tF tO tD tR tS : TypeId} {E : Nat → Prop} (h : OwnD w base n tF tO tD tR tS E x) : ∃ a c, x.dd = .slice a x.d.decls.length c := by
  obtain ⟨Z, dvs, e, hd, _⟩ := h.dd
  have el : dvs.length = x.d.decls.length := by rw [← e]; simp
  rw [← el]
  exact own_shape hd
theorem Mem.un (h : Mem w0 b ws base n wr o c s x) : Below w0.heap.size w0 wr := h.u0.trans (h.fr.below h.u0.size (fun k hk => Nat.lt_of_lt_of_le hk h.hw))
theorem Mem.kept (h : Mem w0 b ws base n wr o c s x) (g : Below wr.heap.size wr w') : Mem w0 b ws base n w' o c s x :=
  ⟨h.st, h.u0, h.hw, h.fr.trans (Keep.ofBelow g), h.sb.kept g, h.db.kept g, h.r6.kept g, h.r7.kept g, h.own.kept g, h.lo⟩
theorem Mem.setS (h : Mem w0 b ws base n wr o c s x) (hs : StR w0 b o' c' s') : Mem w0 b ws base n (((((wr.setCell ⟨ws.heap.size, 0, none⟩ (.slice (some ⟨b, o', none⟩) s'.l.length c')).setCell ⟨ws.heap.size, 1, none⟩ (.int .i64 s'.cd)).setCell ⟨ws.heap.size, 2, none⟩ (.int .i64 0)).setCell ⟨ws.heap.size, 3, none⟩ (.int .i64 s'.ln)).setCell ⟨ws.heap.size, 4, none⟩ (.int .i64 s'.cl)) o' c' s' x := by
  have K : Keep (· ≠ ws.heap.size) wr (((((wr.setCell ⟨ws.heap.size, 0, none⟩ (.slice (some ⟨b, o', none⟩) s'.l.length c')).setCell ⟨ws.heap.size, 1, none⟩ (.int .i64 s'.cd)).setCell ⟨ws.heap.size, 2, none⟩ (.int .i64 0)).setCell ⟨ws.heap.size, 3, none⟩ (.int .i64 s'.ln)).setCell ⟨ws.heap.size, 4, none⟩ (.int .i64 s'.cl)) :=
    ((((Keep.setCell _ _ _ (by simp)).trans (Keep.setCell _ _ _ (by simp))).trans (Keep.setCell _ _ _ (by simp))).trans (Keep.setCell _ _ _ (by simp))).trans (Keep.setCell _ _ _ (by simp))
  have hlo := h.lo
  exact ⟨hs, h.u0, h.hw, h.fr.trans (K.weak (fun k (hk : k < base) e => by omega)), blkall5 h.sb, h.db.keep K (by omega), h.r6.keep K (by omega), h.r7.keep K (by omega), h.own.keep K (fun k _ hk e => hk ⟨by omega, by omega⟩), h.lo⟩
theorem Mem.le (h : Mem w0 b ws base n wr o c s x) : base ≤ wr.heap.size := by have := h.lo; have := h.sb.lt; omega
theorem Mem.moreR (h : Mem w0 b ws base n wr o c s x) {l : List MR} (hl : x.d.res = l) (hn : l.length ≤ 400000) (y : MR) :
    ∃ a c' w', Hid ((Builtin.append_ #[71, 71] 71 #[x.r, .slice (some ⟨wr.heap.size, 0, none⟩) 1 1]).run Tryz.prog (wr.alloc (.cells #[.int .u64 y.low, .int .u64 y.high, .int .i64 y.at1.1, .int .i64 y.at1.2] 136)) = .ok (.slice a (l.length + 1) c') w') ∧ Hid (Grow wr w' x.r (.slice a (l.length + 1) c')) ∧ Hid (Blk w' (ws.heap.size + 1) 74 #[.bool x.d.enum, .string (strOfNums x.d.name), .int .i64 x.d.at1.1, .int .i64 x.d.at1.2, x.f, x.o, x.dd, x.r, x.s]) ∧
      Hid (Mem w0 b ws base n (w'.setCell ⟨ws.heap.size + 1, 7, none⟩ (.slice a (l.length + 1) c')) o c s ⟨{ x.d with res := l ++ [y] }, x.f, x.o, x.dd, .slice a (l.length + 1) c', x.s⟩) := by
  subst hl
  obtain ⟨v', w', h1, h2, g⟩ := append_st 136 71 4 32 zRr Tryz.underlying71 Tryz.infoRr rfl (by decide) (by decide) base x.r x.d.res.length (x.d.res.flatMap cR) wr #[.int .u64 y.low, .int .u64 y.high, .int .i64 y.at1.1, .int .i64 y.at1.2] rfl (fun u hu => by simp at hu; rcases hu with rfl | rfl | rfl | rfl <;> rfl) h.own.r h.le hn
  obtain ⟨a, c', rfl⟩ := own_shape h2
  have ho : w'.ownsRow base 136 4 (.slice a (x.d.res.length + 1) c') (x.d.res ++ [y]).length ((x.d.res ++ [y]).flatMap cR) := by rw [List.flatMap_append, List.length_append]; exact h2
  have K : Keep (fun q => x.r.ownBlock ≠ some q) wr w' := Keep.ofGrow g (fun _ hk => hk)
  have hne : ∀ q, ws.heap.size ≤ q → q < ws.heap.size + 4 → x.r.ownBlock ≠ some q := fun q h1 h2 hk => h.own.me q (.inr (.inr (.inr (.inl hk)))) ⟨h1, h2⟩
  have hlo := h.lo
  have hb := h.db.keep K (hne _ (by omega) (by omega))
  have K2 : Keep (· ≠ ws.heap.size + 1) w' (w'.setCell ⟨ws.heap.size + 1, 7, none⟩ (.slice a (x.d.res.length + 1) c')) := Keep.setCell _ _ _ (by simp)
  have hf : Keep (· < base) wr w' := Keep.ofGrow g (fun q hq e => by have := (own_type h.own.r e).1; omega)
  exact ⟨a, c', w', hid h1, hid g, hid hb, hid ⟨h.st, h.u0, h.hw, (h.fr.trans hf).trans (K2.weak (fun q (hq : q < base) e => by omega)), (h.sb.keep K (hne _ (by omega) (by omega))).keep K2 (by omega), (hb.set 7 _).is (by simp), (h.r6.keep K (hne _ (by omega) (by omega))).keep K2 (by omega), (h.r7.keep K (hne _ (by omega) (by omega))).keep K2 (by omega),
    (h.own.addR (by decide) (by decide) (by decide) (by decide) g ho).keep K2 (fun q _ hq e => hq ⟨by omega, by omega⟩), h.lo⟩⟩
theorem Mem.moreO (h : Mem w0 b ws base n wr o c s x) {l : List MO} (hl : x.d.oneofs = l) (hn : l.length ≤ 400000) (y : MO) :
    ∃ a c' w', Hid ((Builtin.append_ #[70, 70] 70 #[x.o, .slice (some ⟨wr.heap.size, 0, none⟩) 1 1]).run Tryz.prog (wr.alloc (.cells #[.string (strOfNums y.name), .int .i64 y.at1.1, .int .i64 y.at1.2] 139)) = .ok (.slice a (l.length + 1) c') w') ∧ Hid (Grow wr w' x.o (.slice a (l.length + 1) c')) ∧ Hid (Blk w' (ws.heap.size + 1) 74 #[.bool x.d.enum, .string (strOfNums x.d.name), .int .i64 x.d.at1.1, .int .i64 x.d.at1.2, x.f, x.o, x.dd, x.r, x.s]) ∧
      Hid (Mem w0 b ws base n (w'.setCell ⟨ws.heap.size + 1, 5, none⟩ (.slice a (l.length + 1) c')) o c s ⟨{ x.d with oneofs := l ++ [y] }, x.f, .slice a (l.length + 1) c', x.dd, x.r, x.s⟩) := by
  subst hl
  obtain ⟨v', w', h1, h2, g⟩ := append_st 139 70 3 32 zOr Tryz.underlying70 Tryz.infoOr rfl (by decide) (by decide) base x.o x.d.oneofs.length (x.d.oneofs.flatMap cO) wr #[.string (strOfNums y.name), .int .i64 y.at1.1, .int .i64 y.at1.2] rfl (fun u hu => by simp at hu; rcases hu with rfl | rfl | rfl <;> rfl) h.own.o h.le hn
  obtain ⟨a, c', rfl⟩ := own_shape h2
  have ho : w'.ownsRow base 139 3 (.slice a (x.d.oneofs.length + 1) c') (x.d.oneofs ++ [y]).length ((x.d.oneofs ++ [y]).flatMap cO) := by rw [List.flatMap_append, List.length_append]; exact h2
  have K : Keep (fun q => x.o.ownBlock ≠ some q) wr w' := Keep.ofGrow g (fun _ hk => hk)
  have hne : ∀ q, ws.heap.size ≤ q → q < ws.heap.size + 4 → x.o.ownBlock ≠ some q := fun q h1 h2 hk => h.own.me q (.inr (.inl hk)) ⟨h1, h2⟩
  have hlo := h.lo
  have hb := h.db.keep K (hne _ (by omega) (by omega))
  have K2 : Keep (· ≠ ws.heap.size + 1) w' (w'.setCell ⟨ws.heap.size + 1, 5, none⟩ (.slice a (x.d.oneofs.length + 1) c')) := Keep.setCell _ _ _ (by simp)
  have hf : Keep (· < base) wr w' := Keep.ofGrow g (fun q hq e => by have := (own_type h.own.o e).1; omega)
  exact ⟨a, c', w', hid h1, hid g, hid hb, hid ⟨h.st, h.u0, h.hw, (h.fr.trans hf).trans (K2.weak (fun q (hq : q < base) e => by omega)), (h.sb.keep K (hne _ (by omega) (by omega))).keep K2 (by omega), (hb.set 5 _).is (by simp), (h.r6.keep K (hne _ (by omega) (by omega))).keep K2 (by omega), (h.r7.keep K (hne _ (by omega) (by omega))).keep K2 (by omega),
    (h.own.addO (by decide) (by decide) (by decide) (by decide) g ho).keep K2 (fun q _ hq e => hq ⟨by omega, by omega⟩), h.lo⟩⟩
theorem Mem.moreF (h : Mem w0 b ws base n wr o c s x) {l : List MF} (hl : x.d.fields = l) (hn : l.length ≤ 400000) (y : MF) :
    ∃ a c' w', Hid ((Builtin.append_ #[69, 69] 69 #[x.f, .slice (some ⟨wr.heap.size, 0, none⟩) 1 1]).run Tryz.prog (wr.alloc (.cells #[.string (strOfNums y.name), .string (strOfNums y.ty), .string (strOfNums y.key), .int .u64 y.num, .int .i64 y.label, .int .i64 y.packed, .int .i64 y.oneof, .int .i64 y.at1.1, .int .i64 y.at1.2, .int .i64 y.nat1.1, .int .i64 y.nat1.2, .int .i64 y.tat.1, .int .i64 y.tat.2, .int .i64 y.mat.1, .int .i64 y.mat.2] 78)) = .ok (.slice a (l.length + 1) c') w') ∧ Hid (Grow wr w' x.f (.slice a (l.length + 1) c')) ∧ Hid (Blk w' (ws.heap.size + 1) 74 #[.bool x.d.enum, .string (strOfNums x.d.name), .int .i64 x.d.at1.1, .int .i64 x.d.at1.2, x.f, x.o, x.dd, x.r, x.s]) ∧
      Hid (Mem w0 b ws base n (w'.setCell ⟨ws.heap.size + 1, 4, none⟩ (.slice a (l.length + 1) c')) o c s ⟨{ x.d with fields := l ++ [y] }, .slice a (l.length + 1) c', x.o, x.dd, x.r, x.s⟩) := by
  subst hl
  obtain ⟨v', w', h1, h2, g⟩ := append_st 78 69 15 144 zFr Tryz.underlying69 Tryz.infoFr rfl (by decide) (by decide) base x.f x.d.fields.length (x.d.fields.flatMap cF) wr #[.string (strOfNums y.name), .string (strOfNums y.ty), .string (strOfNums y.key), .int .u64 y.num, .int .i64 y.label, .int .i64 y.packed, .int .i64 y.oneof, .int .i64 y.at1.1, .int .i64 y.at1.2, .int .i64 y.nat1.1, .int .i64 y.nat1.2, .int .i64 y.tat.1, .int .i64 y.tat.2, .int .i64 y.mat.1, .int .i64 y.mat.2] rfl (fun u hu => by simp at hu; rcases hu with rfl | rfl | rfl | rfl | rfl | rfl | rfl | rfl | rfl | rfl | rfl | rfl | rfl | rfl | rfl <;> rfl) h.own.f h.le hn
  obtain ⟨a, c', rfl⟩ := own_shape h2
  have ho : w'.ownsRow base 78 15 (.slice a (x.d.fields.length + 1) c') (x.d.fields ++ [y]).length ((x.d.fields ++ [y]).flatMap cF) := by rw [List.flatMap_append, List.length_append]; exact h2
  have K : Keep (fun q => x.f.ownBlock ≠ some q) wr w' := Keep.ofGrow g (fun _ hk => hk)
  have hne : ∀ q, ws.heap.size ≤ q → q < ws.heap.size + 4 → x.f.ownBlock ≠ some q := fun q h1 h2 hk => h.own.me q (.inl hk) ⟨h1, h2⟩
  have hlo := h.lo
  have hb := h.db.keep K (hne _ (by omega) (by omega))
  have K2 : Keep (· ≠ ws.heap.size + 1) w' (w'.setCell ⟨ws.heap.size + 1, 4, none⟩ (.slice a (x.d.fields.length + 1) c')) := Keep.setCell _ _ _ (by simp)
  have hf : Keep (· < base) wr w' := Keep.ofGrow g (fun q hq e => by have := (own_type h.own.f e).1; omega)
  exact ⟨a, c', w', hid h1, hid g, hid hb, hid ⟨h.st, h.u0, h.hw, (h.fr.trans hf).trans (K2.weak (fun q (hq : q < base) e => by omega)), (h.sb.keep K (hne _ (by omega) (by omega))).keep K2 (by omega), (hb.set 4 _).is (by simp), (h.r6.keep K (hne _ (by omega) (by omega))).keep K2 (by omega), (h.r7.keep K (hne _ (by omega) (by omega))).keep K2 (by omega),
    (h.own.addF (by decide) (by decide) (by decide) (by decide) g ho).keep K2 (fun q _ hq e => hq ⟨by omega, by omega⟩), h.lo⟩⟩
theorem Mem.moreD (h : Mem w0 b ws base n wr o c s x) (hn : x.d.decls.length ≤ 400000) {N : Nat} {y : DV} (hN : base ≤ N) (hm : ∀ k, x.mine k ∨ (ws.heap.size ≤ k ∧ k < ws.heap.size + 4) → k < N) (hy : RD n wr (fun k => N ≤ k ∧ k < wr.heap.size) y) :
    ∃ a c' w', Hid ((Builtin.append_ #[32, 32] 32 #[x.dd, .slice (some ⟨wr.heap.size, 0, none⟩) 1 1]).run Tryz.prog (wr.alloc (.cells #[.bool y.d.enum, .string (strOfNums y.d.name), .int .i64 y.d.at1.1, .int .i64 y.d.at1.2, y.f, y.o, y.dd, y.r, y.s] 74)) = .ok (.slice a (x.d.decls.length + 1) c') w') ∧ Hid (Grow wr w' x.dd (.slice a (x.d.decls.length + 1) c')) ∧ Hid (Blk w' (ws.heap.size + 1) 74 #[.bool x.d.enum, .string (strOfNums x.d.name), .int .i64 x.d.at1.1, .int .i64 x.d.at1.2, x.f, x.o, x.dd, x.r, x.s]) ∧ Hid (∀ k, x.dd.ownBlock = some k → k < N) ∧
      Hid (Mem w0 b ws base n (w'.setCell ⟨ws.heap.size + 1, 6, none⟩ (.slice a (x.d.decls.length + 1) c')) o c s ⟨{ x.d with decls := x.d.decls ++ [y.d] }, x.f, x.o, .slice a (x.d.decls.length + 1) c', x.r, x.s⟩) := by
  obtain ⟨Z, dvs, e, hd, hz, hmz, hys⟩ := h.own.dd
  have el : dvs.length = x.d.decls.length := by rw [← e]; simp
  have hov : ∀ z : Value, z.oneCell' = true → z.oneCell' = true := fun _ h => h
  obtain ⟨hy1, hy2, hy3, hy4, hy5⟩ : (∃ a c, y.f = .slice a y.d.fields.length c) ∧ (∃ a c, y.o = .slice a y.d.oneofs.length c) ∧ (∃ a c, y.r = .slice a y.d.res.length c) ∧ (∃ a c, y.s = .slice a y.d.syms.length c) ∧ ∃ a k c, y.dd = .slice a k c := by
    cases n with
    | zero => exact hy.elim
    | succ n =>
      obtain ⟨⟨a1, c1, e1, _⟩, ⟨a2, c2, e2, _⟩, ⟨a3, c3, e3, _⟩, ⟨a4, c4, e4, _⟩, dd, _, ⟨a5, c5, e5, _⟩, _⟩ := hy
      exact ⟨⟨a1, c1, e1⟩, ⟨a2, c2, e2⟩, ⟨a3, c3, e3⟩, ⟨a4, c4, e4⟩, ⟨a5, _, c5, e5⟩⟩
  obtain ⟨a1, c1, e1⟩ := hy1
  obtain ⟨a2, c2, e2⟩ := hy2
  obtain ⟨a3, c3, e3⟩ := hy3
  obtain ⟨a4, c4, e4⟩ := hy4
  obtain ⟨a5, k5, c5, e5⟩ := hy5
  obtain ⟨v', w', h1, h2, g⟩ := append_st 74 32 9 160 zDr Tryz.underlying32 Tryz.infoDr rfl (by decide) (by decide) base x.dd dvs.length (dvs.flatMap cD) wr #[.bool y.d.enum, .string (strOfNums y.d.name), .int .i64 y.d.at1.1, .int .i64 y.d.at1.2, y.f, y.o, y.dd, y.r, y.s] rfl (fun u hu => by rw [e1, e2, e3, e4, e5] at hu; simp at hu; rcases hu with rfl | rfl | rfl | rfl | rfl | rfl | rfl | rfl | rfl <;> rfl) hd h.le (by omega)
  rw [el] at h2
  obtain ⟨a, c', rfl⟩ := own_shape h2
  have ho : w'.ownsRow base 74 9 (.slice a (x.d.decls.length + 1) c') (dvs.length + 1) (dvs.flatMap cD ++ cD y) := by rw [el]; exact h2
  have K : Keep (fun q => x.dd.ownBlock ≠ some q) wr w' := Keep.ofGrow g (fun _ hk => hk)
  have hne : ∀ q, ws.heap.size ≤ q → q < ws.heap.size + 4 → x.dd.ownBlock ≠ some q := fun q h1 h2 hk => h.own.me q (.inr (.inr (.inl hk))) ⟨h1, h2⟩
  have hlo := h.lo
  have hb := h.db.keep K (hne _ (by omega) (by omega))
  have K2 : Keep (· ≠ ws.heap.size + 1) w' (w'.setCell ⟨ws.heap.size + 1, 6, none⟩ (.slice a (x.d.decls.length + 1) c')) := Keep.setCell _ _ _ (by simp)
  have hf : Keep (· < base) wr w' := Keep.ofGrow g (fun q hq e => by have := (own_type hd e).1; omega)
  exact ⟨a, c', w', hid h1, hid g, hid hb, hid (fun k hk => hm k (.inl (.inr (.inr (.inl hk))))), hid ⟨h.st, h.u0, h.hw, (h.fr.trans hf).trans (K2.weak (fun q (hq : q < base) e => by omega)), (h.sb.keep K (hne _ (by omega) (by omega))).keep K2 (by omega), (hb.set 6 _).is (by simp), (h.r6.keep K (hne _ (by omega) (by omega))).keep K2 (by omega), (h.r7.keep K (hne _ (by omega) (by omega))).keep K2 (by omega),
    (h.own.addD (by decide) (by decide) (by decide) (by decide) (Zy := fun k => N ≤ k ∧ k < wr.heap.size) (fun k hk => ⟨by omega, hk.2⟩) (fun k hk hk2 => by have := hm k hk; omega) hy Z e hd hz hmz hys g ho).keep K2 (fun q _ hq e => hq ⟨by omega, by omega⟩), h.lo⟩⟩
theorem Mem.next (h : Mem w0 b ws base n wr o c s x) (hs : StR w0 b (o + 6) (c - 1) (nxM s)) (hl : (nxM s).l.length = s.l.length - 1) : Mem w0 b ws base n (wr.setCell ⟨ws.heap.size, 0, none⟩ (.slice (some ⟨b, o + 6, none⟩) (s.l.length - 1) (c - 1))) (o + 6) (c - 1) (nxM s) x := by
  have K : Keep (· ≠ ws.heap.size) wr (wr.setCell ⟨ws.heap.size, 0, none⟩ (.slice (some ⟨b, o + 6, none⟩) (s.l.length - 1) (c - 1))) := Keep.setCell _ _ _ (by simp)
  have hlo := h.lo
  exact ⟨hs, h.u0, h.hw, h.fr.trans (K.weak (fun k (hk : k < base) e => by omega)), (h.sb.set 0 _).is (by rw [hl]; simp [nxM]), h.db.keep K (by omega), h.r6.keep K (by omega), h.r7.keep K (by omega), h.own.keep K (fun k _ hk e => hk ⟨by omega, by omega⟩), h.lo⟩
/-- Where member ends. -/
theorem Mem.fin (h : Mem w0 b ws base n wr o c s x) (K : Keep (fun k => k ≠ ws.heap.size + 1 + 1 ∧ k ≠ ws.heap.size + 1 + 1 + 1) wr w') : Hid (OwnD w' base n 78 139 74 136 126 (fun _ => False) x) ∧ Keep (· < base) ws w' :=
  ⟨hid (h.own.keep K (fun k _ hk => ⟨fun e => hk ⟨by omega, by omega⟩, fun e => hk ⟨by omega, by omega⟩⟩)).noE, h.fr.trans (K.weak (fun k (hk : k < base) => ⟨fun e => by have := h.lo; omega, fun e => by have := h.lo; omega⟩))⟩
/-- Where member begins. -/
theorem Mem.start {w : World} (hs : StR w0 b o c s) (u0 : Below w0.heap.size w0 w) (hw : w0.heap.size ≤ base) (ho : OwnD w base n 78 139 74 136 126 (fun _ => False) x) (lo : base ≤ w.heap.size) :
    Mem w0 b w base n ((((w.alloc (.cells #[.slice (some ⟨b, o, none⟩) s.l.length c, .int .i64 s.cd, .int .i64 0, .int .i64 s.ln, .int .i64 s.cl] 54)).alloc (.cells #[.bool x.d.enum, .string (strOfNums x.d.name), .int .i64 x.d.at1.1, .int .i64 x.d.at1.2, x.f, x.o, x.dd, x.r, x.s] 74)).alloc (.cells #[.bool false, .string ⟨#[]⟩, .int .i64 0, .int .i64 0, .slice none 0 0, .slice none 0 0, .slice none 0 0, .slice none 0 0, .slice none 0 0] 74)).alloc (.cells #[.slice none 0 0, .int .i64 0, .int .i64 0, .int .i64 0, .int .i64 0] 54)) o c s x := by
  have g : Below w.heap.size w ((((w.alloc (.cells #[.slice (some ⟨b, o, none⟩) s.l.length c, .int .i64 s.cd, .int .i64 0, .int .i64 s.ln, .int .i64 s.cl] 54)).alloc (.cells #[.bool x.d.enum, .string (strOfNums x.d.name), .int .i64 x.d.at1.1, .int .i64 x.d.at1.2, x.f, x.o, x.dd, x.r, x.s] 74)).alloc (.cells #[.bool false, .string ⟨#[]⟩, .int .i64 0, .int .i64 0, .slice none 0 0, .slice none 0 0, .slice none 0 0, .slice none 0 0, .slice none 0 0] 74)).alloc (.cells #[.slice none 0 0, .int .i64 0, .int .i64 0, .int .i64 0, .int .i64 0] 54)) := by exact blBy
  exact ⟨hs, u0, hw, Keep.ofBelow g, ((((Blk.newAt (by simp)).kept (below_alloc _)).kept (below_alloc _)).kept (below_alloc _)), (((Blk.newAt (by simp)).kept (below_alloc _)).kept (below_alloc _)), ((Blk.newAt (by simp)).kept (below_alloc _)), (Blk.newAt (by simp)), ho.withE g (fun k hk => ⟨hk.1, by have := hk.2; simp; omega⟩), lo⟩
end
section
variable (w0 : World) (b off cap : Nat) (s : PS) (w : World) (base n : Nat)
theorem memR_map (x : DV) (depth : Int) (hi : isM s wMap = true) (htot : tot x.d + 3 * muM s ≤ 300000) (h : StR w0 b off cap s) (hb : Below w0.heap.size w0 w) (hw : w0.heap.size ≤ base) (hlo : base ≤ w.heap.size) (ho : OwnD w base n 78 139 74 136 126 (fun _ => False) x) : Calls Tryz.prog 47 #[.agg #[.slice (some ⟨b, off, none⟩) s.l.length cap, .int .i64 s.cd, .int .i64 0, .int .i64 s.ln, .int .i64 s.cl], .agg #[.bool x.d.enum, .string (strOfNums x.d.name), .int .i64 x.d.at1.1, .int .i64 x.d.at1.2, x.f, x.o, x.dd, x.r, x.s], .int .i64 depth] w (MemR w0 b base n ({ x.d with fields := x.d.fields ++ [(prsM s).1] }, (prsM s).2) w) := by
  have HH := hid hi
  clear hi
  obtain ⟨xd, xf, xo, xdd, xr, xs⟩ := x
  dsimp only at *
  obtain ⟨fa, fc, rfl⟩ : ∃ a c, xf = .slice a xd.fields.length c := own_shape ho.f
  obtain ⟨oa, oc, rfl⟩ : ∃ a c, xo = .slice a xd.oneofs.length c := own_shape ho.o
  obtain ⟨ra, rc, rfl⟩ : ∃ a c, xr = .slice a xd.res.length c := own_shape ho.r
  obtain ⟨ya, yc, rfl⟩ : ∃ a c, xs = .slice a xd.syms.length c := own_shape ho.s
  obtain ⟨da, dc, rfl⟩ : ∃ a c, xdd = .slice a xd.decls.length c := ho.ddS
  have HTT := hid htot
  have HLO := hid hlo
  have HB := hid hb
  have G0 := hid (Mem.start h hb hw ho hlo)
  dsimp only at G0
  clear h hb hw ho htot hlo
  go_enter Tryz.func47, Tryz.ntmps47
  go_wp2_with fail
  refine (isR w0 b off cap s _ ⟨#[109, 101, 115, 115, 97, 103, 101]⟩ wMessage rfl (by decide) G0.out.st G0.out.un).mono ?_
  rintro e w1 ⟨rfl, hb1⟩
  have G1 := hid (G0.out.kept hb1)
  have hs1 := hb1.size
  try simp at hs1
  clear hb1
  have c_s := G1.out.sb.cellF
  have f_s := G1.out.sb.frz
  have l_s := G1.out.sb.lt
  have c_d := G1.out.db.cellF
  have f_d := G1.out.db.frz
  have l_d := G1.out.db.lt
  have c_6 := G1.out.r6.cellF
  have f_6 := G1.out.r6.frz
  have l_6 := G1.out.r6.lt
  have c_7 := G1.out.r7.cellF
  have f_7 := G1.out.r7.frz
  have l_7 := G1.out.r7.lt
  rw [isR_other HH.out (by decide)]
  go_wp2_with fail
  refine (isR w0 b off cap s _ ⟨#[101, 110, 117, 109]⟩ wEnum rfl (by decide) G1.out.st G1.out.un).mono ?_
  rintro e w2 ⟨rfl, hb2⟩
  have G2 := hid (G1.out.kept hb2)
  have hs2 := hb2.size
  try simp at hs2
  clear hb2
  clear c_s f_s l_s c_d f_d l_d c_6 f_6 l_6 c_7 f_7 l_7
  have c_s := G2.out.sb.cellF
  have f_s := G2.out.sb.frz
  have l_s := G2.out.sb.lt
  have c_d := G2.out.db.cellF
  have f_d := G2.out.db.frz
  have l_d := G2.out.db.lt
  have c_6 := G2.out.r6.cellF
  have f_6 := G2.out.r6.frz
  have l_6 := G2.out.r6.lt
  have c_7 := G2.out.r7.cellF
  have f_7 := G2.out.r7.frz
  have l_7 := G2.out.r7.lt
  rw [isR_other HH.out (by decide)]
  go_wp2_with fail
  refine (isR w0 b off cap s _ ⟨#[111, 110, 101, 111, 102]⟩ wOneof rfl (by decide) G2.out.st G2.out.un).mono ?_
  rintro e w3 ⟨rfl, hb3⟩
  have G3 := hid (G2.out.kept hb3)
  have hs3 := hb3.size
  try simp at hs3
  clear hb3
  clear c_s f_s l_s c_d f_d l_d c_6 f_6 l_6 c_7 f_7 l_7
  have c_s := G3.out.sb.cellF
  have f_s := G3.out.sb.frz
  have l_s := G3.out.sb.lt
  have c_d := G3.out.db.cellF
  have f_d := G3.out.db.frz
  have l_d := G3.out.db.lt
  have c_6 := G3.out.r6.cellF
  have f_6 := G3.out.r6.frz
  have l_6 := G3.out.r6.lt
  have c_7 := G3.out.r7.cellF
  have f_7 := G3.out.r7.frz
  have l_7 := G3.out.r7.lt
  rw [isR_other HH.out (by decide)]
  go_wp2_with fail
  refine (isR w0 b off cap s _ ⟨#[114, 101, 115, 101, 114, 118, 101, 100]⟩ wReserved rfl (by decide) G3.out.st G3.out.un).mono ?_
  rintro e w4 ⟨rfl, hb4⟩
  have G4 := hid (G3.out.kept hb4)
  have hs4 := hb4.size
  try simp at hs4
  clear hb4
  clear c_s f_s l_s c_d f_d l_d c_6 f_6 l_6 c_7 f_7 l_7
  have c_s := G4.out.sb.cellF
  have f_s := G4.out.sb.frz
  have l_s := G4.out.sb.lt
  have c_d := G4.out.db.cellF
  have f_d := G4.out.db.frz
  have l_d := G4.out.db.lt
  have c_6 := G4.out.r6.cellF
  have f_6 := G4.out.r6.frz
  have l_6 := G4.out.r6.lt
  have c_7 := G4.out.r7.cellF
  have f_7 := G4.out.r7.frz
  have l_7 := G4.out.r7.lt
  rw [isR_other HH.out (by decide)]
  go_wp2_with fail
  refine (isR w0 b off cap s _ ⟨#[109, 97, 112]⟩ wMap rfl (by decide) G4.out.st G4.out.un).mono ?_
  rintro e w5 ⟨rfl, hb5⟩
  have G5 := hid (G4.out.kept hb5)
  have hs5 := hb5.size
  try simp at hs5
  clear hb5
  clear c_s f_s l_s c_d f_d l_d c_6 f_6 l_6 c_7 f_7 l_7
  have c_s := G5.out.sb.cellF
  have f_s := G5.out.sb.frz
  have l_s := G5.out.sb.lt
  have c_d := G5.out.db.cellF
  have f_d := G5.out.db.frz
  have l_d := G5.out.db.lt
  have c_6 := G5.out.r6.cellF
  have f_6 := G5.out.r6.frz
  have l_6 := G5.out.r6.lt
  have c_7 := G5.out.r7.cellF
  have f_7 := G5.out.r7.frz
  have l_7 := G5.out.r7.lt
  rw [HH.out]
  go_wp2_with fail
  refine (pairsR w0 b off cap s _ G5.out.st G5.out.un).mono ?_
  rintro e w6 ⟨⟨f, s1, o1, c1, hf, he, rfl, hst1⟩, hb6⟩
  have G6 := hid (G5.out.kept hb6)
  have hs6 := hb6.size
  try simp at hs6
  clear hb6
  clear c_s f_s l_s c_d f_d l_d c_6 f_6 l_6 c_7 f_7 l_7
  have c_s := G6.out.sb.cellF
  have f_s := G6.out.sb.frz
  have l_s := G6.out.sb.lt
  have c_d := G6.out.db.cellF
  have f_d := G6.out.db.frz
  have l_d := G6.out.db.lt
  have c_6 := G6.out.r6.cellF
  have f_6 := G6.out.r6.frz
  have l_6 := G6.out.r6.lt
  have c_7 := G6.out.r7.cellF
  have f_7 := G6.out.r7.frz
  have l_7 := G6.out.r7.lt
  have lwk : w.heap.size + 1 + 1 + 1 < w6.heap.size := G6.out.r7.lt
  go_upto_region 35 with fail
  have GZ : Hid (Mem w0 b w base n ((w6.alloc (.cells #[.string (strOfNums f.name), .string (strOfNums f.ty), .string (strOfNums f.key), .int .u64 f.num, .int .i64 f.label, .int .i64 f.packed, .int .i64 f.oneof, .int .i64 f.at1.1, .int .i64 f.at1.2, .int .i64 f.nat1.1, .int .i64 f.nat1.2, .int .i64 f.tat.1, .int .i64 f.tat.2, .int .i64 f.mat.1, .int .i64 f.mat.2] 78)).alloc (.cells #[.slice (some ⟨b, o1, none⟩) s1.l.length c1, .int .i64 s1.cd, .int .i64 0, .int .i64 s1.ln, .int .i64 s1.cl] 54)) off cap s ⟨xd, .slice fa xd.fields.length fc, .slice oa xd.oneofs.length oc, .slice da xd.decls.length dc, .slice ra xd.res.length rc, .slice ya xd.syms.length yc⟩) := hid (G6.out.kept (below_twor _ _))
  have Bf : Blk ((w6.alloc (.cells #[.string (strOfNums f.name), .string (strOfNums f.ty), .string (strOfNums f.key), .int .u64 f.num, .int .i64 f.label, .int .i64 f.packed, .int .i64 f.oneof, .int .i64 f.at1.1, .int .i64 f.at1.2, .int .i64 f.nat1.1, .int .i64 f.nat1.2, .int .i64 f.tat.1, .int .i64 f.tat.2, .int .i64 f.mat.1, .int .i64 f.mat.2] 78)).alloc (.cells #[.slice (some ⟨b, o1, none⟩) s1.l.length c1, .int .i64 s1.cd, .int .i64 0, .int .i64 s1.ln, .int .i64 s1.cl] 54)) (w6.heap.size) 78 #[.string (strOfNums f.name), .string (strOfNums f.ty), .string (strOfNums f.key), .int .u64 f.num, .int .i64 f.label, .int .i64 f.packed, .int .i64 f.oneof, .int .i64 f.at1.1, .int .i64 f.at1.2, .int .i64 f.nat1.1, .int .i64 f.nat1.2, .int .i64 f.tat.1, .int .i64 f.tat.2, .int .i64 f.mat.1, .int .i64 f.mat.2] := (Blk.newAt rfl).kept (below_alloc _)
  have Bx : Blk ((w6.alloc (.cells #[.string (strOfNums f.name), .string (strOfNums f.ty), .string (strOfNums f.key), .int .u64 f.num, .int .i64 f.label, .int .i64 f.packed, .int .i64 f.oneof, .int .i64 f.at1.1, .int .i64 f.at1.2, .int .i64 f.nat1.1, .int .i64 f.nat1.2, .int .i64 f.tat.1, .int .i64 f.tat.2, .int .i64 f.mat.1, .int .i64 f.mat.2] 78)).alloc (.cells #[.slice (some ⟨b, o1, none⟩) s1.l.length c1, .int .i64 s1.cd, .int .i64 0, .int .i64 s1.ln, .int .i64 s1.cl] 54)) (w6.heap.size + 1) 54 #[.slice (some ⟨b, o1, none⟩) s1.l.length c1, .int .i64 s1.cd, .int .i64 0, .int .i64 s1.ln, .int .i64 s1.cl] := Blk.newAt (by simp)
  clear c_s f_s l_s c_d f_d l_d c_6 f_6 l_6 c_7 f_7 l_7
  generalize ((w6.alloc (.cells #[.string (strOfNums f.name), .string (strOfNums f.ty), .string (strOfNums f.key), .int .u64 f.num, .int .i64 f.label, .int .i64 f.packed, .int .i64 f.oneof, .int .i64 f.at1.1, .int .i64 f.at1.2, .int .i64 f.nat1.1, .int .i64 f.nat1.2, .int .i64 f.tat.1, .int .i64 f.tat.2, .int .i64 f.mat.1, .int .i64 f.mat.2] 78)).alloc (.cells #[.slice (some ⟨b, o1, none⟩) s1.l.length c1, .int .i64 s1.cd, .int .i64 0, .int .i64 s1.ln, .int .i64 s1.cl] 54)) = wz at *
  have c_f := Bf.cellF
  have c_x := Bx.cellF
  have l_f := Bf.lt
  have l_x := Bx.lt
  have c_s := GZ.out.sb.cellF
  have f_s := GZ.out.sb.frz
  have l_s := GZ.out.sb.lt
  have c_d := GZ.out.db.cellF
  have f_d := GZ.out.db.frz
  have l_d := GZ.out.db.lt
  have c_6 := GZ.out.r6.cellF
  have f_6 := GZ.out.r6.frz
  have l_6 := GZ.out.r6.lt
  have c_7 := GZ.out.r7.cellF
  have f_7 := GZ.out.r7.frz
  have l_7 := GZ.out.r7.lt
  obtain ⟨la, lc, x3, HRUN, HGR, HB3, G3⟩ := GZ.out.moreF rfl (by have := HTT.out; unfold tot at this; dsimp only; omega) f
  dsimp only at HRUN HGR HB3 G3
  have Bx3 : Blk x3 (w6.heap.size + 1) 54 #[.slice (some ⟨b, o1, none⟩) s1.l.length c1, .int .i64 s1.cd, .int .i64 0, .int .i64 s1.ln, .int .i64 s1.cl] := growR_blk HGR.out GZ.out.own.f Bx (by decide)
  have c_3 := HB3.out.cellF
  have f_3 := HB3.out.frz
  have l_3 := HB3.out.lt
  go_wp2_with (first | (at_builtin; refine wpList_append_ran rfl _ _ 69 69 rfl rfl _ _ (.slice la (xd.fields.length + 1) lc) x3 rfl rfl HRUN.out ?_))
  have Bx4 : Blk (x3.setCell ⟨w.heap.size + 1, 4, none⟩ (.slice la (xd.fields.length + 1) lc)) (w6.heap.size + 1) 54 #[.slice (some ⟨b, o1, none⟩) s1.l.length c1, .int .i64 s1.cd, .int .i64 0, .int .i64 s1.ln, .int .i64 s1.cl] := Bx3.other (show w6.heap.size + 1 ≠ w.heap.size + 1 by have := G6.out.r7.lt; omega) _
  clear c_s f_s l_s c_d f_d l_d c_6 f_6 l_6 c_7 f_7 l_7 c_3 f_3 l_3 c_f c_x l_f l_x Bx3 HB3 HRUN HGR Bf Bx
  generalize (x3.setCell ⟨w.heap.size + 1, 4, none⟩ (.slice la (xd.fields.length + 1) lc)) = x4 at *
  have c_x := Bx4.cellF
  have l_x := Bx4.lt
  have c_s := G3.out.sb.cellF
  have f_s := G3.out.sb.frz
  have l_s := G3.out.sb.lt
  have c_d := G3.out.db.cellF
  have f_d := G3.out.db.frz
  have l_d := G3.out.db.lt
  have c_6 := G3.out.r6.cellF
  have f_6 := G3.out.r6.frz
  have l_6 := G3.out.r6.lt
  have c_7 := G3.out.r7.cellF
  have f_7 := G3.out.r7.frz
  have l_7 := G3.out.r7.lt
  go_region
  all_goals go_wp2
  all_goals exact bodyPost_ret (v := .tuple #[.agg #[.bool xd.enum, .string (strOfNums xd.name), .int .i64 xd.at1.1, .int .i64 xd.at1.2, .slice la (xd.fields.length + 1) lc, .slice oa xd.oneofs.length oc, .slice da xd.decls.length dc, .slice ra xd.res.length rc, .slice ya xd.syms.length yc], .agg #[.slice (some ⟨b, o1, none⟩) s1.l.length c1, .int .i64 s1.cd, .int .i64 0, .int .i64 s1.ln, .int .i64 s1.cl]]) (by simp [results, Tryz.results47, go_sem, c_6, c_7, l_6, l_7]) rfl (MemR.is _ s1 o1 c1 (hid (by rw [hf.out])) (hid (he.out)) rfl (G3.out.fin (by exact kpBy)).1 hst1 (G3.out.fin (by exact kpBy)).2)
theorem memR_plain (x : DV) (depth : Int) (h1 : isM s wMessage = false) (h2 : isM s wEnum = false) (h3 : isM s wOneof = false) (h4 : isM s wReserved = false) (h5 : isM s wMap = false) (h6 : isM s wOptional = false) (h7 : isM s wRepeated = false) (htot : tot x.d + 3 * muM s ≤ 300000) (h : StR w0 b off cap s) (hb : Below w0.heap.size w0 w) (hw : w0.heap.size ≤ base) (hlo : base ≤ w.heap.size) (ho : OwnD w base n 78 139 74 136 126 (fun _ => False) x) : Calls Tryz.prog 47 #[.agg #[.slice (some ⟨b, off, none⟩) s.l.length cap, .int .i64 s.cd, .int .i64 0, .int .i64 s.ln, .int .i64 s.cl], .agg #[.bool x.d.enum, .string (strOfNums x.d.name), .int .i64 x.d.at1.1, .int .i64 x.d.at1.2, x.f, x.o, x.dd, x.r, x.s], .int .i64 depth] w (MemR w0 b base n ({ x.d with fields := x.d.fields ++ [(fldM s 0 (0, 0)).1] }, (fldM s 0 (0, 0)).2) w) := by
  replace h1 := hid h1
  replace h2 := hid h2
  replace h3 := hid h3
  replace h4 := hid h4
  replace h5 := hid h5
  replace h6 := hid h6
  replace h7 := hid h7
  obtain ⟨xd, xf, xo, xdd, xr, xs⟩ := x
  dsimp only at *
  obtain ⟨fa, fc, rfl⟩ : ∃ a c, xf = .slice a xd.fields.length c := own_shape ho.f
  obtain ⟨oa, oc, rfl⟩ : ∃ a c, xo = .slice a xd.oneofs.length c := own_shape ho.o
  obtain ⟨ra, rc, rfl⟩ : ∃ a c, xr = .slice a xd.res.length c := own_shape ho.r
  obtain ⟨ya, yc, rfl⟩ : ∃ a c, xs = .slice a xd.syms.length c := own_shape ho.s
  obtain ⟨da, dc, rfl⟩ : ∃ a c, xdd = .slice a xd.decls.length c := ho.ddS
  have HTT := hid htot
  have HLO := hid hlo
  have HB := hid hb
  have G0 := hid (Mem.start h hb hw ho hlo)
  dsimp only at G0
  clear h hb hw ho htot hlo
  go_enter Tryz.func47, Tryz.ntmps47
  go_wp2_with fail
  refine (isR w0 b off cap s _ ⟨#[109, 101, 115, 115, 97, 103, 101]⟩ wMessage rfl (by decide) G0.out.st G0.out.un).mono ?_
  rintro e w1 ⟨rfl, hb1⟩
  have G1 := hid (G0.out.kept hb1)
  have hs1 := hb1.size
  try simp at hs1
  clear hb1
  have c_s := G1.out.sb.cellF
  have f_s := G1.out.sb.frz
  have l_s := G1.out.sb.lt
  have c_d := G1.out.db.cellF
  have f_d := G1.out.db.frz
  have l_d := G1.out.db.lt
  have c_6 := G1.out.r6.cellF
  have f_6 := G1.out.r6.frz
  have l_6 := G1.out.r6.lt
  have c_7 := G1.out.r7.cellF
  have f_7 := G1.out.r7.frz
  have l_7 := G1.out.r7.lt
  rw [h1.out]
  go_wp2_with fail
  refine (isR w0 b off cap s _ ⟨#[101, 110, 117, 109]⟩ wEnum rfl (by decide) G1.out.st G1.out.un).mono ?_
  rintro e w2 ⟨rfl, hb2⟩
  have G2 := hid (G1.out.kept hb2)
  have hs2 := hb2.size
  try simp at hs2
  clear hb2
  clear c_s f_s l_s c_d f_d l_d c_6 f_6 l_6 c_7 f_7 l_7
  have c_s := G2.out.sb.cellF
  have f_s := G2.out.sb.frz
  have l_s := G2.out.sb.lt
  have c_d := G2.out.db.cellF
  have f_d := G2.out.db.frz
  have l_d := G2.out.db.lt
  have c_6 := G2.out.r6.cellF
  have f_6 := G2.out.r6.frz
  have l_6 := G2.out.r6.lt
  have c_7 := G2.out.r7.cellF
  have f_7 := G2.out.r7.frz
  have l_7 := G2.out.r7.lt
  rw [h2.out]
  go_wp2_with fail
  refine (isR w0 b off cap s _ ⟨#[111, 110, 101, 111, 102]⟩ wOneof rfl (by decide) G2.out.st G2.out.un).mono ?_
  rintro e w3 ⟨rfl, hb3⟩
  have G3 := hid (G2.out.kept hb3)
  have hs3 := hb3.size
  try simp at hs3
  clear hb3
  clear c_s f_s l_s c_d f_d l_d c_6 f_6 l_6 c_7 f_7 l_7
  have c_s := G3.out.sb.cellF
  have f_s := G3.out.sb.frz
  have l_s := G3.out.sb.lt
  have c_d := G3.out.db.cellF
  have f_d := G3.out.db.frz
  have l_d := G3.out.db.lt
  have c_6 := G3.out.r6.cellF
  have f_6 := G3.out.r6.frz
  have l_6 := G3.out.r6.lt
  have c_7 := G3.out.r7.cellF
  have f_7 := G3.out.r7.frz
  have l_7 := G3.out.r7.lt
  rw [h3.out]
  go_wp2_with fail
  refine (isR w0 b off cap s _ ⟨#[114, 101, 115, 101, 114, 118, 101, 100]⟩ wReserved rfl (by decide) G3.out.st G3.out.un).mono ?_
  rintro e w4 ⟨rfl, hb4⟩
  have G4 := hid (G3.out.kept hb4)
  have hs4 := hb4.size
  try simp at hs4
  clear hb4
  clear c_s f_s l_s c_d f_d l_d c_6 f_6 l_6 c_7 f_7 l_7
  have c_s := G4.out.sb.cellF
  have f_s := G4.out.sb.frz
  have l_s := G4.out.sb.lt
  have c_d := G4.out.db.cellF
  have f_d := G4.out.db.frz
  have l_d := G4.out.db.lt
  have c_6 := G4.out.r6.cellF
  have f_6 := G4.out.r6.frz
  have l_6 := G4.out.r6.lt
  have c_7 := G4.out.r7.cellF
  have f_7 := G4.out.r7.frz
  have l_7 := G4.out.r7.lt
  rw [h4.out]
  go_wp2_with fail
  refine (isR w0 b off cap s _ ⟨#[109, 97, 112]⟩ wMap rfl (by decide) G4.out.st G4.out.un).mono ?_
  rintro e w5 ⟨rfl, hb5⟩
  have G5 := hid (G4.out.kept hb5)
  have hs5 := hb5.size
  try simp at hs5
  clear hb5
  clear c_s f_s l_s c_d f_d l_d c_6 f_6 l_6 c_7 f_7 l_7
  have c_s := G5.out.sb.cellF
  have f_s := G5.out.sb.frz
  have l_s := G5.out.sb.lt
  have c_d := G5.out.db.cellF
  have f_d := G5.out.db.frz
  have l_d := G5.out.db.lt
  have c_6 := G5.out.r6.cellF
  have f_6 := G5.out.r6.frz
  have l_6 := G5.out.r6.lt
  have c_7 := G5.out.r7.cellF
  have f_7 := G5.out.r7.frz
  have l_7 := G5.out.r7.lt
  rw [h5.out]
  have GM := hid (G5.out.kept (below_alloc (.cells #[.int .i64 0, .int .i64 0] 64)))
  have Bk0 : Blk (w5.alloc (.cells #[.int .i64 0, .int .i64 0] 64)) (w5.heap.size) 64 #[.int .i64 0, .int .i64 0] := Blk.newAt rfl
  go_wp2_with fail
  refine (isR w0 b off cap s _ ⟨#[111, 112, 116, 105, 111, 110, 97, 108]⟩ wOptional rfl (by decide) GM.out.st GM.out.un).mono ?_
  rintro e w6 ⟨rfl, hb6⟩
  have G6 := hid (GM.out.kept hb6)
  have hs6 := hb6.size
  try simp at hs6
  have Bk1 : Blk w6 (w5.heap.size) 64 #[.int .i64 0, .int .i64 0] := Bk0.kept hb6
  clear hb6
  clear c_s f_s l_s c_d f_d l_d c_6 f_6 l_6 c_7 f_7 l_7
  have c_s := G6.out.sb.cellF
  have f_s := G6.out.sb.frz
  have l_s := G6.out.sb.lt
  have c_d := G6.out.db.cellF
  have f_d := G6.out.db.frz
  have l_d := G6.out.db.lt
  have c_6 := G6.out.r6.cellF
  have f_6 := G6.out.r6.frz
  have l_6 := G6.out.r6.lt
  have c_7 := G6.out.r7.cellF
  have f_7 := G6.out.r7.frz
  have l_7 := G6.out.r7.lt
  rw [h6.out]
  go_wp2_with fail
  refine (isR w0 b off cap s _ ⟨#[114, 101, 112, 101, 97, 116, 101, 100]⟩ wRepeated rfl (by decide) G6.out.st G6.out.un).mono ?_
  rintro e w7 ⟨rfl, hb7⟩
  have G7 := hid (G6.out.kept hb7)
  have hs7 := hb7.size
  try simp at hs7
  have Bk2 : Blk w7 (w5.heap.size) 64 #[.int .i64 0, .int .i64 0] := Bk1.kept hb7
  clear hb7
  clear c_s f_s l_s c_d f_d l_d c_6 f_6 l_6 c_7 f_7 l_7
  have c_s := G7.out.sb.cellF
  have f_s := G7.out.sb.frz
  have l_s := G7.out.sb.lt
  have c_d := G7.out.db.cellF
  have f_d := G7.out.db.frz
  have l_d := G7.out.db.lt
  have c_6 := G7.out.r6.cellF
  have f_6 := G7.out.r6.frz
  have l_6 := G7.out.r6.lt
  have c_7 := G7.out.r7.cellF
  have f_7 := G7.out.r7.frz
  have l_7 := G7.out.r7.lt
  rw [h7.out]
  have c_k := Bk2.cellF
  have f_k := Bk2.frz
  have l_k := Bk2.lt
  go_wp2_with fail
  refine (fieldR w0 b off cap s _ 0 (0, 0) G7.out.st G7.out.un).mono ?_
  rintro e w8 ⟨⟨f, s1, o1, c1, hf, he, rfl, hst1⟩, hb8⟩
  have G8 := hid (G7.out.kept hb8)
  have hs8 := hb8.size
  try simp at hs8
  clear hb8
  clear c_s f_s l_s c_d f_d l_d c_6 f_6 l_6 c_7 f_7 l_7
  have c_s := G8.out.sb.cellF
  have f_s := G8.out.sb.frz
  have l_s := G8.out.sb.lt
  have c_d := G8.out.db.cellF
  have f_d := G8.out.db.frz
  have l_d := G8.out.db.lt
  have c_6 := G8.out.r6.cellF
  have f_6 := G8.out.r6.frz
  have l_6 := G8.out.r6.lt
  have c_7 := G8.out.r7.cellF
  have f_7 := G8.out.r7.frz
  have l_7 := G8.out.r7.lt
  clear Bk0 Bk1 Bk2 c_k f_k l_k
  have lwk : w.heap.size + 1 + 1 + 1 < w8.heap.size := G8.out.r7.lt
  go_upto_region 46 with fail
  have GZ : Hid (Mem w0 b w base n ((w8.alloc (.cells #[.string (strOfNums f.name), .string (strOfNums f.ty), .string (strOfNums f.key), .int .u64 f.num, .int .i64 f.label, .int .i64 f.packed, .int .i64 f.oneof, .int .i64 f.at1.1, .int .i64 f.at1.2, .int .i64 f.nat1.1, .int .i64 f.nat1.2, .int .i64 f.tat.1, .int .i64 f.tat.2, .int .i64 f.mat.1, .int .i64 f.mat.2] 78)).alloc (.cells #[.slice (some ⟨b, o1, none⟩) s1.l.length c1, .int .i64 s1.cd, .int .i64 0, .int .i64 s1.ln, .int .i64 s1.cl] 54)) off cap s ⟨xd, .slice fa xd.fields.length fc, .slice oa xd.oneofs.length oc, .slice da xd.decls.length dc, .slice ra xd.res.length rc, .slice ya xd.syms.length yc⟩) := hid (G8.out.kept (below_twor _ _))
  have Bf : Blk ((w8.alloc (.cells #[.string (strOfNums f.name), .string (strOfNums f.ty), .string (strOfNums f.key), .int .u64 f.num, .int .i64 f.label, .int .i64 f.packed, .int .i64 f.oneof, .int .i64 f.at1.1, .int .i64 f.at1.2, .int .i64 f.nat1.1, .int .i64 f.nat1.2, .int .i64 f.tat.1, .int .i64 f.tat.2, .int .i64 f.mat.1, .int .i64 f.mat.2] 78)).alloc (.cells #[.slice (some ⟨b, o1, none⟩) s1.l.length c1, .int .i64 s1.cd, .int .i64 0, .int .i64 s1.ln, .int .i64 s1.cl] 54)) (w8.heap.size) 78 #[.string (strOfNums f.name), .string (strOfNums f.ty), .string (strOfNums f.key), .int .u64 f.num, .int .i64 f.label, .int .i64 f.packed, .int .i64 f.oneof, .int .i64 f.at1.1, .int .i64 f.at1.2, .int .i64 f.nat1.1, .int .i64 f.nat1.2, .int .i64 f.tat.1, .int .i64 f.tat.2, .int .i64 f.mat.1, .int .i64 f.mat.2] := (Blk.newAt rfl).kept (below_alloc _)
  have Bx : Blk ((w8.alloc (.cells #[.string (strOfNums f.name), .string (strOfNums f.ty), .string (strOfNums f.key), .int .u64 f.num, .int .i64 f.label, .int .i64 f.packed, .int .i64 f.oneof, .int .i64 f.at1.1, .int .i64 f.at1.2, .int .i64 f.nat1.1, .int .i64 f.nat1.2, .int .i64 f.tat.1, .int .i64 f.tat.2, .int .i64 f.mat.1, .int .i64 f.mat.2] 78)).alloc (.cells #[.slice (some ⟨b, o1, none⟩) s1.l.length c1, .int .i64 s1.cd, .int .i64 0, .int .i64 s1.ln, .int .i64 s1.cl] 54)) (w8.heap.size + 1) 54 #[.slice (some ⟨b, o1, none⟩) s1.l.length c1, .int .i64 s1.cd, .int .i64 0, .int .i64 s1.ln, .int .i64 s1.cl] := Blk.newAt (by simp)
  clear c_s f_s l_s c_d f_d l_d c_6 f_6 l_6 c_7 f_7 l_7
  generalize ((w8.alloc (.cells #[.string (strOfNums f.name), .string (strOfNums f.ty), .string (strOfNums f.key), .int .u64 f.num, .int .i64 f.label, .int .i64 f.packed, .int .i64 f.oneof, .int .i64 f.at1.1, .int .i64 f.at1.2, .int .i64 f.nat1.1, .int .i64 f.nat1.2, .int .i64 f.tat.1, .int .i64 f.tat.2, .int .i64 f.mat.1, .int .i64 f.mat.2] 78)).alloc (.cells #[.slice (some ⟨b, o1, none⟩) s1.l.length c1, .int .i64 s1.cd, .int .i64 0, .int .i64 s1.ln, .int .i64 s1.cl] 54)) = wz at *
  have c_f := Bf.cellF
  have c_x := Bx.cellF
  have l_f := Bf.lt
  have l_x := Bx.lt
  have c_s := GZ.out.sb.cellF
  have f_s := GZ.out.sb.frz
  have l_s := GZ.out.sb.lt
  have c_d := GZ.out.db.cellF
  have f_d := GZ.out.db.frz
  have l_d := GZ.out.db.lt
  have c_6 := GZ.out.r6.cellF
  have f_6 := GZ.out.r6.frz
  have l_6 := GZ.out.r6.lt
  have c_7 := GZ.out.r7.cellF
  have f_7 := GZ.out.r7.frz
  have l_7 := GZ.out.r7.lt
  obtain ⟨la, lc, x3, HRUN, HGR, HB3, G3⟩ := GZ.out.moreF rfl (by have := HTT.out; unfold tot at this; dsimp only; omega) f
  dsimp only at HRUN HGR HB3 G3
  have Bx3 : Blk x3 (w8.heap.size + 1) 54 #[.slice (some ⟨b, o1, none⟩) s1.l.length c1, .int .i64 s1.cd, .int .i64 0, .int .i64 s1.ln, .int .i64 s1.cl] := growR_blk HGR.out GZ.out.own.f Bx (by decide)
  have c_3 := HB3.out.cellF
  have f_3 := HB3.out.frz
  have l_3 := HB3.out.lt
  go_wp2_with (first | (at_builtin; refine wpList_append_ran rfl _ _ 69 69 rfl rfl _ _ (.slice la (xd.fields.length + 1) lc) x3 rfl rfl HRUN.out ?_))
  have Bx4 : Blk (x3.setCell ⟨w.heap.size + 1, 4, none⟩ (.slice la (xd.fields.length + 1) lc)) (w8.heap.size + 1) 54 #[.slice (some ⟨b, o1, none⟩) s1.l.length c1, .int .i64 s1.cd, .int .i64 0, .int .i64 s1.ln, .int .i64 s1.cl] := Bx3.other (show w8.heap.size + 1 ≠ w.heap.size + 1 by have := G8.out.r7.lt; omega) _
  clear c_s f_s l_s c_d f_d l_d c_6 f_6 l_6 c_7 f_7 l_7 c_3 f_3 l_3 c_f c_x l_f l_x Bx3 HB3 HRUN HGR Bf Bx
  generalize (x3.setCell ⟨w.heap.size + 1, 4, none⟩ (.slice la (xd.fields.length + 1) lc)) = x4 at *
  have c_x := Bx4.cellF
  have l_x := Bx4.lt
  have c_s := G3.out.sb.cellF
  have f_s := G3.out.sb.frz
  have l_s := G3.out.sb.lt
  have c_d := G3.out.db.cellF
  have f_d := G3.out.db.frz
  have l_d := G3.out.db.lt
  have c_6 := G3.out.r6.cellF
  have f_6 := G3.out.r6.frz
  have l_6 := G3.out.r6.lt
  have c_7 := G3.out.r7.cellF
  have f_7 := G3.out.r7.frz
  have l_7 := G3.out.r7.lt
  go_region
  all_goals go_wp2
  all_goals exact bodyPost_ret (v := .tuple #[.agg #[.bool xd.enum, .string (strOfNums xd.name), .int .i64 xd.at1.1, .int .i64 xd.at1.2, .slice la (xd.fields.length + 1) lc, .slice oa xd.oneofs.length oc, .slice da xd.decls.length dc, .slice ra xd.res.length rc, .slice ya xd.syms.length yc], .agg #[.slice (some ⟨b, o1, none⟩) s1.l.length c1, .int .i64 s1.cd, .int .i64 0, .int .i64 s1.ln, .int .i64 s1.cl]]) (by simp [results, Tryz.results47, go_sem, c_6, c_7, l_6, l_7]) rfl (MemR.is _ s1 o1 c1 (hid (by rw [hf.out])) (hid (he.out)) rfl (G3.out.fin (by exact kpBy)).1 hst1 (G3.out.fin (by exact kpBy)).2)
end
end Go.Proofs.YtidimdbnnnpplaaGreatDoor
