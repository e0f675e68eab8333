/-
  A table whose fields and oneofs have other names: it is good, and is lowered to the same.
  Rows that are copied and given other names.
  A type by its name: both answers.
  The table of the examples.
  The examples' block.
  The law's own first question.
  What a lowered message looks like.
  PlanKept.
  Rows that are copied and given other names: the moves.
-/
import Derived.Test.YtbopddnekoocoaaGreatDoorCKW
import Derived.Lib.AppendZerosOnto
import Derived.Lib.AppendZeros
import Derived.Test.YtbopddnekoocoaaGreatDoorCTX
namespace Go.Proofs.YtbopddnekoocoaaGreatDoor
open Go.RowKit
set_option maxRecDepth 1000000
set_option linter.unusedVariables false
set_option linter.unusedSimpArgs false
set_option maxHeartbeats 1000000
def reF (f : FT) : FT := { f with name := 102 :: 95 :: f.name }
def reO (n : List Int) : List Int := 111 :: 95 :: n
def reT (t : TT) : TT := { t with fs := t.fs.map reF, os := t.os.map reO }
theorem clrL_rn (fs : List FT) (f : FT) : clrL (fs.map reF) (reF f) = clrL fs f := by
  unfold clrL
  show (if f.lab = 4 then _ else _) = _
  congr 1
  rw [List.filter_map, List.map_map]
  rfl
theorem valL_rn (fs : List FT) (f : FT) : valL (fs.map reF) (reF f) = valL fs f := by
  unfold valL
  rw [clrL_rn]
  rfl
theorem decS_rn (fs : List FT) (acc : List IN) (f : FT) : decS (fs.map reF) acc (reF f) = decS fs acc f := by
  unfold decS case1
  rw [valL_rn]
  rfl
theorem decL_rn (fs : List FT) : decL (fs.map reF) = decL fs := by
  unfold decL
  rw [List.foldl_map]
  simp only [decS_rn]
theorem encL_rn (fs : List FT) : encL (fs.map reF) = encL fs := by
  unfold encL
  rw [List.foldl_map]
  rfl
theorem loBK_rn (t : TT) : loBK (reT t) = loBK t := by
  unfold loBK
  show (if t.enum = true then (⟨[], [], rowsL t.ss⟩ : BK) else ⟨decL (t.fs.map reF), encL (t.fs.map reF), []⟩) = _
  rw [decL_rn, encL_rn]
theorem nmA_sh (p q : Int) (n : List Int) : ∀ f i, nmA n f i = true → nmA (p :: q :: n) f (i + 2) = true
  | 0, _, _ => rfl
  | f + 1, i, h => by
    rw [nmA, Bool.and_eq_true] at h
    have hb : bt (p :: q :: n) (i + 2) = bt n i := rfl
    rw [nmA, hb, nmA_sh p q n f (i + 1) h.2, Bool.and_true]
    have := h.1
    simp only [Bool.or_eq_true, Bool.and_eq_true, decide_eq_true_eq] at this ⊢
    rcases this with h1 | h1
    · exact .inl h1
    · exact .inr ⟨by omega, h1.2⟩
theorem nmB_rn (p : Int) (hp : letB p = true) (n : List Int) (h : nmB n = true) : nmB (p :: 95 :: n) = true := by
  unfold nmB at h ⊢
  rw [Bool.and_eq_true] at h ⊢
  refine ⟨by simp, ?_⟩
  show nmA (p :: 95 :: n) (n.length + 1 + 1) 0 = true
  rw [nmA, nmA, nmA_sh p 95 n _ 0 h.2]
  have e0 : bt (p :: 95 :: n) 0 = p := rfl
  have e1 : bt (p :: 95 :: n) (0 + 1) = 95 := rfl
  rw [e0, e1, hp]
  rfl
theorem litS_cons (p q : Int) (a b : List Int) (h : litS (p :: q :: a) = litS (p :: q :: b)) : litS a = litS b := by
  unfold litS at h ⊢
  rw [strOfNums_data, strOfNums_data] at h ⊢
  simpa using h
theorem litS_ne (a b : List Int) : litS (111 :: 95 :: a) ≠ litS (102 :: 95 :: b) := by
  intro e
  unfold litS at e
  rw [strOfNums_data, strOfNums_data] at e
  simp at e
theorem key_litS (x : List Int) : WideAt.IsKeyLit (litS x) := trivial
theorem dfN_rn (os ns : List (List Int)) (h : dfB ((os ++ ns).map litS) = true) : dfB ((os.map reO ++ ns.map (fun n => 102 :: 95 :: n)).map litS) = true := by
  have hk : ∀ l : List (List Int), ∀ x ∈ l.map litS, WideAt.IsKeyLit x := fun l x hx => by obtain ⟨y, _, rfl⟩ := List.mem_map.1 hx; exact key_litS y
  rw [dfB_iff _ (hk _)] at h ⊢
  rw [List.nodup_iff_pairwise_ne, List.pairwise_map, List.pairwise_append] at h ⊢
  obtain ⟨h1, h2, h3⟩ := h
  refine ⟨?_, ?_, ?_⟩
  · rw [List.pairwise_map]
    exact h1.imp (fun hne e => hne (litS_cons 111 95 _ _ e))
  · rw [List.pairwise_map]
    exact h2.imp (fun hne e => hne (litS_cons 102 95 _ _ e))
  · intro a ha b hb
    obtain ⟨a', _, rfl⟩ := List.mem_map.1 ha
    obtain ⟨b', _, rfl⟩ := List.mem_map.1 hb
    exact litS_ne _ _
def stOf (o : Option TT) : Bool := match o with | none => false | some t => !t.enum
def rfOf (f : FT) (o : Option Bool) : Bool := match o with | some e => decide (0 ≤ f.ref) && (e == decide (f.kind = 16)) | none => false
section
variable {l l' : List TV} (hl : l'.map TV.t = l.map (fun x => reT x.t))
include hl
theorem named_rn (j : Nat) (x : List Int) : named (l'.take j) x = named (l.take j) x := by
  unfold named
  have e1 : (l'.take j).any (fun v => v.t.name == x) = ((l'.map TV.t).take j).any (fun t => t.name == x) := by rw [← List.map_take, List.any_map]; rfl
  have e2 : (l.take j).any (fun v => v.t.name == x) = ((l.map (fun x => reT x.t)).take j).any (fun t => t.name == x) := by rw [← List.map_take, List.any_map]; rfl
  rw [e1, e2, hl]
theorem standB_rn (j : Nat) (x : List Int) : standB l' j x = standB l j x := by
  have e0 : ∀ (m : List TV), standB m j x = if lastD x < 0 then true else stOf (((m.take j).find? (fun v => v.t.name == x.take (lastD x).toNat)).map TV.t) := fun m => by
    unfold standB
    split
    · rfl
    · cases (m.take j).find? (fun v => v.t.name == x.take (lastD x).toNat) <;> rfl
  rw [e0, e0]
  have e1 : ((l'.take j).find? (fun v => v.t.name == x.take (lastD x).toNat)).map TV.t = ((l'.map TV.t).take j).find? (fun t => t.name == x.take (lastD x).toNat) := by
    rw [← List.map_take, List.find?_map]
    rfl
  have e2 : stOf (((l.take j).find? (fun v => v.t.name == x.take (lastD x).toNat)).map TV.t) = stOf (((l.map (fun x => reT x.t)).take j).find? (fun t => t.name == x.take (lastD x).toNat)) := by
    rw [← List.map_take, List.find?_map]
    show _ = stOf (((l.take j).find? (fun v => v.t.name == x.take (lastD x).toNat)).map (fun x => reT x.t))
    cases (l.take j).find? (fun v => v.t.name == x.take (lastD x).toNat) <;> rfl
  rw [e2, e1, hl]
theorem refB_rn (f : FT) : refB l' (reF f) = refB l f := by
  have e0 : ∀ (m : List TV), refB m f = if f.kind = 16 ∨ f.kind = 17 then rfOf f ((m[f.ref.toNat]?).map (fun x => x.t.enum)) else decide (f.ref = 0) := fun m => by
    unfold refB
    split
    · cases m[f.ref.toNat]? <;> rfl
    · rfl
  have e1 : refB l' (reF f) = refB l' f := rfl
  rw [e1, e0, e0]
  have e2 : (l'[f.ref.toNat]?).map (fun x => x.t.enum) = (l[f.ref.toNat]?).map (fun x => x.t.enum) := by
    have e := congrArg (fun m => (m[f.ref.toNat]?).map TT.enum) hl
    simp only [List.getElem?_map, Option.map_map] at e
    exact e
  rw [e2]
theorem fldB_rn (k : Nat) (f : FT) : fldB l' k (reF f) = fldB l k f := by
  unfold fldB
  rw [refB_rn hl]
  rfl
end
theorem riseA_rn : ∀ (fs : List FT) (z : Int), riseA (fs.map reF) z = riseA fs z
  | [], z => rfl
  | f :: r, z => by
    show (if f.num ≤ z then false else riseA (r.map reF) f.num) = (if f.num ≤ z then false else riseA r f.num)
    rw [riseA_rn r]
theorem hitB_rn (fs : List FT) (r : RG) : hitB (fs.map reF) r = hitB fs r := by
  unfold hitB
  rw [List.any_map]
  rfl
theorem freeA_rn (fs : List FT) : ∀ (rs : List RG) (z : Int), freeA (fs.map reF) rs z = freeA fs rs z
  | [], z => rfl
  | r :: l, z => by
    rw [freeA, freeA, hitB_rn, freeA_rn fs l]
theorem memA_rn (fs : List FT) : ∀ n i, memA (fs.map reF) n i = memA fs n i
  | 0, _ => rfl
  | n + 1, i => by
    rw [memA, memA, List.any_map, memA_rn fs n]
    rfl
theorem nmsB_rn (t : TT) (h : nmsB t = true) : nmsB (reT t) = true := by
  unfold nmsB at h ⊢
  rw [Bool.and_eq_true] at h ⊢
  have e : (reT t).os ++ (reT t).fs.map FT.name = t.os.map reO ++ (t.fs.map FT.name).map (fun n => 102 :: 95 :: n) := by
    show t.os.map reO ++ (t.fs.map reF).map FT.name = _
    rw [List.map_map, List.map_map]
    rfl
  rw [e]
  refine ⟨?_, dfN_rn _ _ h.2⟩
  have h1 := List.all_eq_true.1 h.1
  rw [List.all_eq_true]
  intro x hx
  rcases List.mem_append.1 hx with hx | hx
  · obtain ⟨y, hy, rfl⟩ := List.mem_map.1 hx
    exact nmB_rn 111 (by decide) y (h1 y (List.mem_append_left _ hy))
  · obtain ⟨y, hy, rfl⟩ := List.mem_map.1 hx
    exact nmB_rn 102 (by decide) y (h1 y (List.mem_append_right _ hy))
section
variable {l l' : List TV} (hl : l'.map TV.t = l.map (fun x => reT x.t))
include hl
theorem stepB_rn (j : Nat) (t : TT) (h : stepB l j t = true) : stepB l' j (reT t) = true := by
  unfold stepB at h ⊢
  have n1 : named (l'.take j) (reT t).name = named (l.take j) t.name := named_rn hl j _
  have n2 : standB l' j (reT t).name = standB l j t.name := standB_rn hl j _
  rw [n1, n2]
  simp only [Bool.and_eq_true] at h ⊢
  obtain ⟨h1, h2, h3, h4⟩ := h
  refine ⟨h1, h2, h3, ?_⟩
  unfold typB at h4 ⊢
  have ee : (reT t).enum = t.enum := rfl
  rw [ee]
  split
  · rename_i he
    rw [if_pos he] at h4
    have e1 : (reT t).fs.length + (reT t).os.length + (reT t).rs.length = t.fs.length + t.os.length + t.rs.length := by
      show (t.fs.map reF).length + (t.os.map reO).length + t.rs.length = _
      rw [List.length_map, List.length_map]
    rw [e1]
    exact h4
  · rename_i he
    rw [if_neg he] at h4
    unfold msgB at h4 ⊢
    have e1 : (reT t).fs.length = t.fs.length := List.length_map ..
    have e2 : (reT t).os.length = t.os.length := List.length_map ..
    have e3 : (reT t).fs.all (fldB l' t.os.length) = t.fs.all (fldB l t.os.length) := by
      show (t.fs.map reF).all _ = _
      rw [List.all_map]
      congr 1
      funext f
      exact fldB_rn hl _ f
    have e4 : riseA (reT t).fs 0 = riseA t.fs 0 := riseA_rn _ _
    have e5 : freeA (reT t).fs (reT t).rs 0 = freeA t.fs t.rs 0 := freeA_rn _ _ _
    have e6 : memA (reT t).fs t.os.length 0 = memA t.fs t.os.length 0 := memA_rn _ _ _
    rw [e1, e2, e3, e4, e5, e6]
    simp only [Bool.and_eq_true] at h4 ⊢
    obtain ⟨g0, g1, g2, g3, g4, g5, g6⟩ := h4
    exact ⟨g0, g1, g2, g3, g4, g5, nmsB_rn t g6⟩
theorem goodA_rn : ∀ (r r' : List TV) (j : Nat), r'.map TV.t = r.map (fun x => reT x.t) → goodA l r j = true → goodA l' r' j = true
  | [], [], _, _, _ => rfl
  | [], _ :: _, _, h, _ => by simp at h
  | _ :: _, [], _, h, _ => by simp at h
  | x :: r, x' :: r', j, h, g => by
    simp only [List.map_cons, List.cons.injEq] at h
    rw [goodA, Bool.and_eq_true] at g ⊢
    rw [h.1]
    exact ⟨stepB_rn hl j x.t g.1, goodA_rn r r' (j + 1) h.2 g.2⟩
theorem goodB_rn (h : goodB l = true) : goodB l' = true := by
  unfold goodB at h ⊢
  have e : l'.length = l.length := by simpa using congrArg List.length hl
  rw [Bool.and_eq_true] at h ⊢
  rw [e]
  exact ⟨h.1, goodA_rn hl l l' 0 hl h.2⟩
theorem lowP_rn (h : goodB l = true) : lowP l' = lowP l := by
  unfold lowP
  rw [if_pos h, if_pos (goodB_rn hl h)]
  have e1 : l'.map (fun x => loBK x.t) = (l'.map TV.t).map loBK := by rw [List.map_map]; rfl
  have e2 : l.map (fun x => loBK x.t) = (l.map (fun x => reT x.t)).map loBK := by
    rw [List.map_map]
    exact List.map_congr_left (fun x _ => (loBK_rn x.t).symm)
  rw [e1, e2, hl]
end
/-- A whole row more, of any type. -/
theorem appRow (t ts size bytes : Nat) (z : Value) (hts : Tryz.prog.underlying ts = some (.slice t)) (hinfo : (Tryz.prog.info? t).map (fun i => (i.zero, i.size, i.bytes)) = some (some z, size, bytes)) (hzs : z.cells.size = size) (h0 : 0 < size) (hby : bytes ≤ 400) (base : Nat) (v : Value) (n : Nat) (fl : List Value) (m : Nat) (gl : List Value) (a : Option Addr) (c : Nat) (w : World) (h : w.ownsRow base t size v n fl) (hy : RowS w AnyZ size (.slice a m c) m gl) (hgl : gl.length = m * size) (h1 : ∀ u ∈ gl, u.oneCell' = true) (hb : base ≤ w.heap.size) (hn : n + m ≤ 4000000) :
    ∃ a' c' w', Hid ((Builtin.append_ #[ts, ts] ts #[v, .slice a m c]).run Tryz.prog w = .ok (.slice a' (n + m) c') w') ∧ Hid (w'.ownsRow base t size (.slice a' (n + m) c') (n + m) (fl ++ gl)) ∧ Hid (Grow w w' v (.slice a' (n + m) c')) := by
  obtain ⟨i0, hi, hz0, hz1, hz2⟩ := info_parts hinfo
  obtain ⟨a2, c2, e, hv⟩ := hy
  cases e
  have hbig : (n + m) * bytes ≤ 140737488355328 := Nat.le_trans (Nat.mul_le_mul hn hby) (by decide)
  have key : ∀ (ad : Addr), a = some ad → (∀ j u, gl[j]? = some u → w.cell? (ad.add j) = some u) → ∃ a' c' w', Hid ((Builtin.append_ #[ts, ts] ts #[v, .slice a m c]).run Tryz.prog w = .ok (.slice a' (n + m) c') w') ∧ Hid (w'.ownsRow base t size (.slice a' (n + m) c') (n + m) (fl ++ gl)) ∧ Hid (Grow w w' v (.slice a' (n + m) c')) := by
    intro ad ea hc
    subst ea
    obtain ⟨v', w', r1, r2, r3⟩ := run_append_mine (P := Tryz.prog) w base ts ts t i0 _ size bytes hts hi hz0 hz1 hz2 hzs h0 v n fl h ad m c gl hgl hc h1 (by unfold maxLen; omega) hbig hb
    obtain ⟨a', c', rfl⟩ := own_shape r2
    exact ⟨a', c', w', hid r1, hid r2, hid r3⟩
  rcases hv.cells with ⟨hl0, hn0⟩ | ⟨b', off, rfl, _, hc⟩
  · subst hl0
    have hg0 : gl = [] := List.eq_nil_of_length_eq_zero (by omega)
    subst hg0
    cases a with
    | none =>
      have hc0 := hn0 rfl
      subst hc0
      obtain ⟨va, vc, rfl⟩ := own_shape h
      refine ⟨va, vc, w, hid ?_, hid ?_, hid (Grow.refl _ _)⟩
      · exact run_append_owned_none (P := Tryz.prog) (w := w) base ts ts t i0 size hts hi _ n fl h
      · rw [List.append_nil]
        exact h
    | some ad => exact key ad rfl (fun j u hu => by simp at hu)
  · refine key _ rfl (fun j u hu => ?_)
    have hadd : (⟨b', off, none⟩ : Addr).add j = ⟨b', off + j, none⟩ := by unfold Addr.add; split <;> simp_all
    rw [hadd]
    exact hc j u hu
theorem flatN {α : Type} {g : α → List Value} {K : Nat} (hK : ∀ x, (g x).length = K) (l : List α) : (l.flatMap g).length = l.length * K := by
  induction l with
  | nil => simp
  | cons x l ih => rw [List.flatMap_cons, List.length_append, hK, ih, List.length_cons, Nat.add_mul]; omega
theorem cFT_one (ys : List FT) : ∀ u ∈ ys.flatMap cFT, u.oneCell' = true := by
  intro u hu
  obtain ⟨y, _, hy⟩ := List.mem_flatMap.1 hu
  simp [cFT] at hy
  rcases hy with rfl | rfl | rfl | rfl | rfl | rfl | rfl <;> rfl
theorem cN_one (ys : List (List Int)) : ∀ u ∈ ys.flatMap cN, u.oneCell' = true := by
  intro u hu
  obtain ⟨y, _, hy⟩ := List.mem_flatMap.1 hu
  simp [cN] at hy
  subst hy
  rfl
def rowF (fs : List FT) (k : Nat) : List Value := ((fs.take k).map reF ++ fs.drop k).flatMap cFT
def rowO (os : List (List Int)) (k : Nat) : List Value := ((os.take k).map reO ++ os.drop k).flatMap cN
theorem setMid {α : Type} (X Y : List α) (a b : α) (n : Nat) (h : X.length = n) : (X ++ a :: Y).set n b = X ++ b :: Y := by
  subst h
  rw [List.set_append_right _ _ (Nat.le_refl _), Nat.sub_self]
  rfl
theorem rowF_set (fs : List FT) (k : Nat) (h : k < fs.length) : (rowF fs k).set (k * 7) (.string (strOfNums (102 :: 95 :: fs[k].name))) = rowF fs (k + 1) := by
  unfold rowF
  rw [List.take_succ_eq_append_getElem h, List.drop_eq_getElem_cons h, List.map_append, List.flatMap_append, List.flatMap_append, List.flatMap_append, List.flatMap_cons]
  have e : (((fs.take k).map reF).flatMap cFT).length = k * 7 := by rw [flatN (K := 7) (fun _ => rfl), List.length_map, List.length_take]; congr 1; omega
  show (_ ++ (Value.string (strOfNums fs[k].name) :: _)).set (k * 7) _ = _
  rw [setMid _ _ _ _ _ e]
  simp [cFT, reF]
theorem rowO_set (os : List (List Int)) (k : Nat) (h : k < os.length) : (rowO os k).set k (.string (strOfNums (111 :: 95 :: os[k]))) = rowO os (k + 1) := by
  unfold rowO
  rw [List.take_succ_eq_append_getElem h, List.drop_eq_getElem_cons h, List.map_append, List.flatMap_append, List.flatMap_append, List.flatMap_append, List.flatMap_cons]
  have e : (((os.take k).map reO).flatMap cN).length = k := by rw [flatN (K := 1) (fun _ => rfl), List.length_map, List.length_take]; omega
  show (_ ++ (Value.string (strOfNums os[k]) :: _)).set k _ = _
  rw [setMid _ _ _ _ _ e]
  simp [cN, reO]
theorem rowF_0 (fs : List FT) : rowF fs 0 = fs.flatMap cFT := by simp [rowF]
theorem rowO_0 (os : List (List Int)) : rowO os 0 = os.flatMap cN := by simp [rowO]
theorem rowF_end (fs : List FT) : rowF fs fs.length = (fs.map reF).flatMap cFT := by simp [rowF]
theorem rowO_end (os : List (List Int)) : rowO os os.length = (os.map reO).flatMap cN := by simp [rowO]
theorem rowF_at (fs : List FT) (k : Nat) (h : k < fs.length) : (rowF fs k)[k * 7]? = some (.string (strOfNums fs[k].name)) := by
  unfold rowF
  rw [List.drop_eq_getElem_cons h, List.flatMap_append, List.flatMap_cons]
  have e : (((fs.take k).map reF).flatMap cFT).length = k * 7 := by rw [flatN (K := 7) (fun _ => rfl), List.length_map, List.length_take]; congr 1; omega
  rw [List.getElem?_append_right (by omega), e, Nat.sub_self]
  rfl
theorem rowO_at (os : List (List Int)) (k : Nat) (h : k < os.length) : (rowO os k)[k]? = some (.string (strOfNums os[k])) := by
  unfold rowO
  rw [List.drop_eq_getElem_cons h, List.flatMap_append, List.flatMap_cons]
  have e : (((os.take k).map reO).flatMap cN).length = k := by rw [flatN (K := 1) (fun _ => rfl), List.length_map, List.length_take]; omega
  rw [List.getElem?_append_right (by omega), e, Nat.sub_self]
  rfl
theorem str_pre (p q : Int) (n : List Int) (b : ByteArray) (h : b = strOfNums [p, q]) : b ++ strOfNums n = strOfNums (p :: q :: n) := by
  subst h
  apply ByteArray.ext
  simp [strOfNums, ByteArray.data_append]
theorem Tryz.infoFT : (Tryz.prog.info? 52).map (fun i => (i.zero, i.size, i.bytes)) = some (some (.agg #[.string ⟨#[]⟩, .int .i64 0, .int .i64 0, .int .i64 0, .int .i64 0, .int .i64 0, .int .i64 0]), 7, 64) := by kernel_rfl
theorem Tryz.infoST : (Tryz.prog.info? 9).map (fun i => (i.zero, i.size, i.bytes)) = some (some (.string ⟨#[]⟩), 1, 16) := by kernel_rfl
theorem Tryz.infoTT : (Tryz.prog.info? 50).map (fun i => (i.zero, i.size, i.bytes)) = some (some (.agg #[.string ⟨#[]⟩, .bool false, .slice none 0 0, .slice none 0 0, .slice none 0 0, .slice none 0 0]), 6, 120) := by kernel_rfl
theorem rowOf {w : World} {b : Nat} {t : TypeId} {cs : Array Value} (B : Blk w b t cs) (k n : Nat) (fl : List Value) (h : cs = fl.toArray) (hl : fl.length = n * k) (hn : n ≤ 9223372036854775807) : RowS w AnyZ k (.slice (some ⟨b, 0, none⟩) n n) n fl :=
  ⟨some ⟨b, 0, none⟩, n, rfl, hl, Nat.le_refl _, hn, .inr ⟨b, 0, rfl, trivial, fun j u hu => by
    rw [Nat.zero_add]
    exact B.cell j u (by rw [h, List.getElem?_toArray]; exact hu)⟩⟩
def simE (h : Nat) : TV := ⟨⟨[69], true, [], [], [⟨[65], 0⟩], []⟩, .slice none 0 0, .slice none 0 0, .slice (some ⟨h + 1, 0, none⟩) 1 1, .slice none 0 0⟩
def simF : List FT := [⟨[120], 1, 2, 0, 0, 0, 0⟩, ⟨[108], 2, 4, 0, 3, 0, 0⟩, ⟨[109], 3, 17, 1, 1, 0, 0⟩]
def simM (h : Nat) : TV := ⟨⟨[77], false, simF, [], [], []⟩, .slice (some ⟨h + 1 + 1, 0, none⟩) 3 3, .slice none 0 0, .slice none 0 0, .slice none 0 0⟩
def simL (h : Nat) : List TV := [simE h, simM h]
theorem simpleW (w : World) : Calls Tryz.prog 19 #[] w fun e w' => e = .returned (.agg #[.slice (some ⟨w.heap.size + 1 + 1 + 1, 0, none⟩) (simL w.heap.size).length 2]) ∧ TbR w' (.slice (some ⟨w.heap.size + 1 + 1 + 1, 0, none⟩) (simL w.heap.size).length 2) (simL w.heap.size) ∧ Below w.heap.size w w' := by
  have HT : Hid (∀ W : World, Blk W (w.heap.size + 1) 63 #[.string ⟨#[65]⟩, .int .i64 0] → Blk W (w.heap.size + 1 + 1) 52 #[.string ⟨#[120]⟩, .int .i64 1, .int .i64 2, .int .i64 0, .int .i64 0, .int .i64 0, .int .i64 0, .string ⟨#[108]⟩, .int .i64 2, .int .i64 4, .int .i64 0, .int .i64 3, .int .i64 0, .int .i64 0, .string ⟨#[109]⟩, .int .i64 3, .int .i64 17, .int .i64 1, .int .i64 1, .int .i64 0, .int .i64 0] → Blk W (w.heap.size + 1 + 1 + 1) 50 #[.string ⟨#[69]⟩, .bool true, .slice none 0 0, .slice none 0 0, .slice (some ⟨w.heap.size + 1, 0, none⟩) 1 1, .slice none 0 0, .string ⟨#[77]⟩, .bool false, .slice (some ⟨w.heap.size + 1 + 1, 0, none⟩) 3 3, .slice none 0 0, .slice none 0 0, .slice none 0 0] → TbR W (.slice (some ⟨w.heap.size + 1 + 1 + 1, 0, none⟩) (simL w.heap.size).length 2) (simL w.heap.size)) := hid fun W B1 B2 B3 => by
    refine ⟨rowOf B3 6 2 _ rfl rfl (by decide), fun x hx => ?_⟩
    rcases List.mem_cons.1 hx with rfl | hx
    · exact ⟨rowS_nil _ _ _, rowS_nil _ _ _, rowOf B1 2 1 _ rfl rfl (by decide), rowS_nil _ _ _⟩
    · rcases List.mem_cons.1 hx with rfl | hx
      · exact ⟨rowOf B2 7 3 _ rfl rfl (by decide), rowS_nil _ _ _, rowS_nil _ _ _, rowS_nil _ _ _⟩
      · cases hx
  go_enter Tryz.func19, Tryz.ntmps19
  go_wp2
  refine bodyPost_ret (v := .agg #[.slice (some ⟨w.heap.size + 1 + 1 + 1, 0, none⟩) 2 2]) (by simp [results, Tryz.results19, go_sem]) rfl ⟨rfl, HT.out _ ?_ ?_ ?_, by exact blBy⟩
  · exact ((Blk.newAt (by simp)).kept (below_alloc _)).kept (below_alloc _)
  · exact (Blk.newAt (by simp)).kept (below_alloc _)
  · exact Blk.newAt (by simp)
theorem simGood (h : Nat) : goodB (simL h) = true := by kernel_rfl
theorem simOk (h : Nat) : ∀ x ∈ simL h, OkV x := by
  have tx : ∀ n : List Int, n ∈ ([[69], [77], [65], [120], [108], [109]] : List (List Int)) → TxA n := by
    intro n hn
    simp only [List.mem_cons, List.not_mem_nil, or_false] at hn
    rcases hn with rfl | rfl | rfl | rfl | rfl | rfl <;> exact ⟨by decide, by decide⟩
  intro x hx
  rcases List.mem_cons.1 hx with rfl | hx
  · refine ⟨⟨tx _ (by simp [simE]), by simp [simE], by simp [simE], fun s hs => ?_⟩, by simp [simE], by simp [simE]⟩
    simp [simE] at hs
    subst hs
    exact ⟨tx _ (by simp), by unfold I64; decide⟩
  · rcases List.mem_cons.1 hx with rfl | hx
    · refine ⟨⟨tx _ (by simp [simM]), fun f hf => ?_, by simp [simM], by simp [simM]⟩, by simp [simM], by simp [simM, simF]⟩
      simp [simM, simF] at hf
      rcases hf with rfl | rfl | rfl <;> exact tx _ (by simp)
    · cases hx
def simBK : BK := ⟨decL simF, encL simF, []⟩
theorem simD : (#[.int .i64 1, .int .i64 0, .int .i64 0, .int .i64 0, .int .i64 0, .int .i64 2, .int .i64 8, .int .i64 5, .int .i64 0, .int .i64 0, .int .i64 5, .int .i64 2, .int .i64 0, .int .i64 0, .int .i64 0, .int .i64 7, .int .i64 1, .int .i64 0, .int .i64 0, .int .i64 0, .int .i64 4, .int .i64 0, .int .i64 0, .int .i64 0, .int .i64 0, .int .i64 2, .int .i64 16, .int .i64 9, .int .i64 0, .int .i64 0, .int .i64 5, .int .i64 4, .int .i64 0, .int .i64 0, .int .i64 0, .int .i64 8, .int .i64 2, .int .i64 0, .int .i64 0, .int .i64 0, .int .i64 4, .int .i64 0, .int .i64 0, .int .i64 0, .int .i64 0, .int .i64 2, .int .i64 18, .int .i64 12, .int .i64 0, .int .i64 0, .int .i64 11, .int .i64 2, .int .i64 4, .int .i64 0, .int .i64 0, .int .i64 4, .int .i64 0, .int .i64 0, .int .i64 0, .int .i64 0, .int .i64 2, .int .i64 26, .int .i64 15, .int .i64 0, .int .i64 0, .int .i64 10, .int .i64 3, .int .i64 1, .int .i64 0, .int .i64 0, .int .i64 4, .int .i64 0, .int .i64 0, .int .i64 0, .int .i64 0, .int .i64 13, .int .i64 0, .int .i64 0, .int .i64 0, .int .i64 0, .int .i64 4, .int .i64 0, .int .i64 0, .int .i64 0, .int .i64 0] : Array Value) = (simBK.dec.flatMap cIN).toArray := by kernel_rfl
theorem simE' : (#[.int .i64 16, .int .i64 1, .int .i64 3, .int .i64 2, .int .i64 0, .int .i64 17, .int .i64 8, .int .i64 0, .int .i64 0, .int .i64 0, .int .i64 18, .int .i64 2, .int .i64 0, .int .i64 0, .int .i64 0, .int .i64 16, .int .i64 2, .int .i64 5, .int .i64 0, .int .i64 0, .int .i64 21, .int .i64 18, .int .i64 4, .int .i64 0, .int .i64 0, .int .i64 16, .int .i64 3, .int .i64 8, .int .i64 0, .int .i64 0, .int .i64 17, .int .i64 26, .int .i64 0, .int .i64 0, .int .i64 0, .int .i64 19, .int .i64 1, .int .i64 0, .int .i64 0, .int .i64 0, .int .i64 23, .int .i64 0, .int .i64 0, .int .i64 0, .int .i64 0, .int .i64 24, .int .i64 0, .int .i64 0, .int .i64 0, .int .i64 0] : Array Value) = (simBK.enc.flatMap cIN).toArray := by kernel_rfl
theorem simDl : simBK.dec.length = 17 := by kernel_rfl
theorem simEl : simBK.enc.length = 10 := by kernel_rfl
def LwA (w : World) (e : Ending) (w' : World) : Prop := ∃ da ea, e = .returned (.agg #[.slice da simBK.dec.length 17, .slice ea simBK.enc.length 10, .slice none simBK.rows.length 0]) ∧ BkR w' simBK (.slice da simBK.dec.length 17) (.slice ea simBK.enc.length 10) (.slice none simBK.rows.length 0) ∧ Below w.heap.size w w'
theorem LwA.mk {w w' : World} {h1 h2 : Nat} (B1 : Blk w' h1 59 #[.int .i64 1, .int .i64 0, .int .i64 0, .int .i64 0, .int .i64 0, .int .i64 2, .int .i64 8, .int .i64 5, .int .i64 0, .int .i64 0, .int .i64 5, .int .i64 2, .int .i64 0, .int .i64 0, .int .i64 0, .int .i64 7, .int .i64 1, .int .i64 0, .int .i64 0, .int .i64 0, .int .i64 4, .int .i64 0, .int .i64 0, .int .i64 0, .int .i64 0, .int .i64 2, .int .i64 16, .int .i64 9, .int .i64 0, .int .i64 0, .int .i64 5, .int .i64 4, .int .i64 0, .int .i64 0, .int .i64 0, .int .i64 8, .int .i64 2, .int .i64 0, .int .i64 0, .int .i64 0, .int .i64 4, .int .i64 0, .int .i64 0, .int .i64 0, .int .i64 0, .int .i64 2, .int .i64 18, .int .i64 12, .int .i64 0, .int .i64 0, .int .i64 11, .int .i64 2, .int .i64 4, .int .i64 0, .int .i64 0, .int .i64 4, .int .i64 0, .int .i64 0, .int .i64 0, .int .i64 0, .int .i64 2, .int .i64 26, .int .i64 15, .int .i64 0, .int .i64 0, .int .i64 10, .int .i64 3, .int .i64 1, .int .i64 0, .int .i64 0, .int .i64 4, .int .i64 0, .int .i64 0, .int .i64 0, .int .i64 0, .int .i64 13, .int .i64 0, .int .i64 0, .int .i64 0, .int .i64 0, .int .i64 4, .int .i64 0, .int .i64 0, .int .i64 0, .int .i64 0]) (B2 : Blk w' h2 59 #[.int .i64 16, .int .i64 1, .int .i64 3, .int .i64 2, .int .i64 0, .int .i64 17, .int .i64 8, .int .i64 0, .int .i64 0, .int .i64 0, .int .i64 18, .int .i64 2, .int .i64 0, .int .i64 0, .int .i64 0, .int .i64 16, .int .i64 2, .int .i64 5, .int .i64 0, .int .i64 0, .int .i64 21, .int .i64 18, .int .i64 4, .int .i64 0, .int .i64 0, .int .i64 16, .int .i64 3, .int .i64 8, .int .i64 0, .int .i64 0, .int .i64 17, .int .i64 26, .int .i64 0, .int .i64 0, .int .i64 0, .int .i64 19, .int .i64 1, .int .i64 0, .int .i64 0, .int .i64 0, .int .i64 23, .int .i64 0, .int .i64 0, .int .i64 0, .int .i64 0, .int .i64 24, .int .i64 0, .int .i64 0, .int .i64 0, .int .i64 0]) (hb : Below w.heap.size w w') : LwA w (.returned (.agg #[.slice (some ⟨h1, 0, none⟩) 17 17, .slice (some ⟨h2, 0, none⟩) 10 10, .slice none 0 0])) w' := by
  refine ⟨some ⟨h1, 0, none⟩, some ⟨h2, 0, none⟩, by rw [simDl, simEl]; rfl, ⟨?_, ?_, rowS_nil _ _ _⟩, hb⟩
  · rw [simDl]
    exact rowOf' B1 5 17 _ simD (by rw [flatM_len (g := cIN) (k := 5) (fun _ => rfl), simDl]) (by decide)
  · rw [simEl]
    exact rowOf' B2 5 10 _ simE' (by rw [flatM_len (g := cIN) (k := 5) (fun _ => rfl), simEl]) (by decide)
theorem loweredW (w : World) : Calls Tryz.prog 20 #[] w (LwA w) := by
  go_enter Tryz.func20, Tryz.ntmps20
  go_wp2
  refine bodyPost_ret (v := .agg #[.slice (some ⟨w.heap.size + 1, 0, none⟩) 17 17, .slice (some ⟨w.heap.size + 1 + 1, 0, none⟩) 10 10, .slice none 0 0]) (by simp [results, Tryz.results20, go_sem]) rfl ?_
  refine LwA.mk ?_ ?_ (by exact blBy)
  · exact (Blk.newAt (by simp)).kept (below_alloc _)
  · exact Blk.newAt (by simp)
/-- The law's own first question. -/
theorem awakeW (w : World) (m : Int) (hm : w.cell? ⟨0, 0, none⟩ = some (.int .i64 m)) : Calls Tryz.prog 8 #[] w fun e w' => e = .returned (.bool true) ∧ Below w.heap.size w w' := by
  have HL : Hid (∀ W W' : World, Below w.heap.size w W → TbR W' (.slice (some ⟨W.heap.size + 1 + 1 + 1, 0, none⟩) (simL W.heap.size).length 2) (simL W.heap.size) → Below w.heap.size w W' → Calls Tryz.prog 6 #[.agg #[.slice (some ⟨W.heap.size + 1 + 1 + 1, 0, none⟩) (simL W.heap.size).length 2], .int .i64 1] W' (LowA W' simBK 0)) := hid fun W W' hW ht hW' => by
    have := lowerTypeT W' (simL W.heap.size) _ 2 ht (simOk _) m (cell_below hm hW') 1
    rw [lowE_ok ⟨simGood _, by decide, by show (1 : Int) < 2; decide⟩] at this
    have e : lowBK (simL W.heap.size) 1 = simBK := lowBK_at (k := 1) (simGood _) (show 1 < 2 by decide)
    rw [e] at this
    exact this
  go_enter Tryz.func8, Tryz.ntmps8
  go_wp2_with fail
  refine (simpleW _).mono ?_
  rintro e w1 ⟨rfl, ht, hb1⟩
  have HT := hid ht
  replace hb1 := hid hb1
  clear ht
  go_wp2_with fail
  refine (HL.out w w1 (Below.refl _ _) HT.out hb1.out).mono ?_
  rintro e w2 ⟨da, dc, ea, ec, ra, rc, rfl, ho, hb2⟩
  replace ho := hid ho.row
  replace hb2 : Hid (Below w.heap.size w w2) := hid (bl_then hb1.out hb2)
  clear HL HT hb1
  go_wp2_with fail
  have Bb : Hid (Blk (w2.alloc (.cells #[.slice da simBK.dec.length dc, .slice ea simBK.enc.length ec, .slice ra simBK.rows.length rc] 28)) w2.heap.size 28 #[.slice da simBK.dec.length dc, .slice ea simBK.enc.length ec, .slice ra simBK.rows.length rc]) := hid (Blk.new _ _ _)
  replace hb2 : Hid (Below w.heap.size w (w2.alloc (.cells #[.slice da simBK.dec.length dc, .slice ea simBK.enc.length ec, .slice ra simBK.rows.length rc] 28))) := hid (by have := hb2.out; exact blBy)
  replace ho : Hid (BkR (w2.alloc (.cells #[.slice da simBK.dec.length dc, .slice ea simBK.enc.length ec, .slice ra simBK.rows.length rc] 28)) simBK (.slice da simBK.dec.length dc) (.slice ea simBK.enc.length ec) (.slice ra simBK.rows.length rc)) := hid (ho.out.kept (below_alloc _))
  generalize w2.alloc (.cells #[.slice da simBK.dec.length dc, .slice ea simBK.enc.length ec, .slice ra simBK.rows.length rc] 28) = W at *
  generalize w2.heap.size = q at *
  have e0 := Bb.out.cell 0 _ rfl
  have e1 := Bb.out.cell 1 _ rfl
  have e2 := Bb.out.cell 2 _ rfl
  simp only [List.getElem_toArray, List.getElem_cons_succ, List.getElem_cons_zero] at e0 e1 e2
  go_region_held3 (fun W => W.cell? ⟨q, 0, none⟩ = some (.slice da simBK.dec.length dc) ∧ W.cell? ⟨q, 1, none⟩ = some (.slice ea simBK.enc.length ec) ∧ W.cell? ⟨q, 2, none⟩ = some (.slice ra simBK.rows.length rc)) (first | exact ⟨e0, e1, e2⟩) (first | (go_at_call 20; refine (loweredW _).mono ?_; rintro e w3 ⟨pa, qa, rfl, hl, hbx⟩; replace e0 := cell_below e0 (below_trans (by first | exact Below.refl _ _ | exact below_drew1 _ | exact below_drewN _ _) hbx); replace e1 := cell_below e1 (below_trans (by first | exact Below.refl _ _ | exact below_drew1 _ | exact below_drewN _ _) hbx); replace e2 := cell_below e2 (below_trans (by first | exact Below.refl _ _ | exact below_drew1 _ | exact below_drewN _ _) hbx); replace ho := hid (ho.out.kept (below_trans (by first | exact Below.refl _ _ | exact below_drew1 _ | exact below_drewN _ _) hbx)); replace hb2 := hid (below_trans hb2.out (below_trans (by first | exact Below.refl _ _ | exact below_drew1 _ | exact below_drewN _ _) hbx)); have HLW := hid hl; clear hl hbx) | (go_at_call 10; refine (sameBlockD _ simBK simBK _ _ _ _ _ _ _ _ _ _ _ _ ho.out HLW.out).mono ?_; rintro e w4 ⟨r, rfl, hr, hbx⟩; obtain rfl : r = true := hr.2 rfl; replace e0 := cell_below e0 hbx; replace e1 := cell_below e1 hbx; replace e2 := cell_below e2 hbx; replace hb2 := hid (below_trans hb2.out hbx); clear hr hbx))
  all_goals
    go_wp2
    go_ret
    exact ⟨rfl, hb2.out⟩
theorem decF_head (fs : List FT) : ∀ (l : List FT) (acc : List IN), ∃ r, l.foldl (decS fs) acc = acc ++ r
  | [], acc => ⟨[], by simp⟩
  | f :: l, acc => by
    obtain ⟨r, e⟩ := decF_head fs l (decS fs acc f)
    rw [List.foldl_cons, e]
    unfold decS case2 case1
    split
    · exact ⟨_, by rw [List.append_assoc, List.append_assoc]⟩
    · exact ⟨_, by rw [List.append_assoc]⟩
theorem decL_shape (fs : List FT) : ∃ r, decL fs = insV 1 [] :: (r ++ [insV 13 [], insV 4 [0]]) := by
  obtain ⟨r, e⟩ := decF_head fs fs [insV 1 []]
  exact ⟨r, by unfold decL; rw [e]; rfl⟩
theorem own_put {w : World} {base e size g n cap : Nat} {fl : List Value} (h : w.ownsRow base e size (.slice (some ⟨g, 0, none⟩) n cap) n fl) (j : Nat) (hj : j < n * size) (v : Value) : (w.setCell ⟨g, j, none⟩ v).ownsRow base e size (.slice (some ⟨g, 0, none⟩) n cap) n (fl.set j v) := by
  refine ⟨by rw [List.length_set]; exact h.1, ?_⟩
  rcases h.2 with ⟨e, _⟩ | ⟨g', cap', cur, e, hbg, hgg, hnc, hcm, hcs, htk⟩
  · cases e
  cases e
  refine .inr ⟨g, cap, cur.setIfInBounds j v, rfl, hbg, Blk.set hgg j v, hnc, hcm, by simpa using hcs, ?_⟩
  rw [← htk]
  simp [List.take_set]
theorem lowBK_len (l : List TV) (i : Int) : (lowBK l i).dec.length ≤ 100000 ∧ (lowBK l i).enc.length ≤ 100000 ∧ (lowBK l i).rows.length ≤ 100000 := by
  by_cases hok : goodB l = true ∧ 0 ≤ i ∧ i < l.length
  case neg => rw [lowBK_no hok]; simp [bkZ]
  obtain ⟨hg, h0, hi⟩ := hok
  obtain ⟨k, rfl⟩ : ∃ k : Nat, i = (k : Int) := ⟨i.toNat, by omega⟩
  have hkl : k < l.length := by omega
  rw [lowBK_at hg hkl]
  cases he : l[k].t.enum with
  | true =>
    have hE := goodP_enum hg hkl he
    unfold loBK
    rw [if_pos he]
    simp only [List.length_nil]
    rw [(rowsL_perm _).length_eq, List.length_map]
    omega
  | false =>
    obtain ⟨hl, _, _⟩ := goodP_msg hg hkl he
    unfold loBK
    rw [if_neg (by rw [he]; simp)]
    have h1 := decF_len l[k].t.fs l[k].t.fs [insV 1 []]
    have h2 := encF_len l[k].t.fs []
    have h3 : l[k].t.fs.length * (l[k].t.fs.length + 8) ≤ 128 * 136 := Nat.mul_le_mul hl (by omega)
    unfold decL encL
    simp only [List.length_append, List.length_cons, List.length_nil] at *
    omega
/-- What is known of a block that is written over. -/
structure AR (V wr : World) (base qa h : Nat) (d e r : Value) (n1 n2 n3 : Nat) : Prop where
  hd : ∃ fl, wr.ownsRow base 59 5 d n1 fl
  he : ∃ fl, wr.ownsRow base 59 5 e n2 fl
  hr : ∃ fl, wr.ownsRow base 61 2 r n3 fl
  kp : Keep (fun b => b < h ∨ qa < b) V wr
  bk : Blk wr qa 28 #[d, e, r]
  ap : ∀ b, d.ownBlock = some b → e.ownBlock ≠ some b
  hb : h ≤ base
  bd : ∀ b, d.ownBlock = some b → b < qa
  be : ∀ b, e.ownBlock = some b → b < qa
  br : ∀ b, r.ownBlock = some b → b < qa
theorem AR.keep {V wr wr' : World} {base qa h : Nat} {d e r : Value} {n1 n2 n3 : Nat} (H : AR V wr base qa h d e r n1 n2 n3) (g : Below wr.heap.size wr wr') : AR V wr' base qa h d e r n1 n2 n3 := by
  obtain ⟨⟨f1, o1⟩, ⟨f2, o2⟩, ⟨f3, o3⟩, h4, h5, h6, h7, h8, h9, h10⟩ := H
  exact ⟨⟨f1, own_kept o1 g⟩, ⟨f2, own_kept o2 g⟩, ⟨f3, own_kept o3 g⟩, h4.trans (Keep.ofBelow g), h5.kept g, h6, h7, h8, h9, h10⟩
theorem own_grow {w w' : World} {v v' u : Value} {base e s n : Nat} {fl : List Value} (g : Grow w w' v v') (h : w.ownsRow base e s u n fl) (hne : ∀ k, u.ownBlock = some k → v.ownBlock ≠ some k) : w'.ownsRow base e s u n fl :=
  own_keep (f := fun k => v.ownBlock ≠ some k) h hne (Keep.ofGrow g (fun _ hk => hk))
theorem copyApp (t ts size bytes : Nat) (z : Value) (hts : Tryz.prog.underlying ts = some (.slice t)) (hinfo : (Tryz.prog.info? t).map (fun i => (i.zero, i.size, i.bytes)) = some (some z, size, bytes)) (hzs : z.cells.size = size) (h0 : 0 < size) (hby : bytes ≤ 400) (V : World) (n : Nat) (gl : List Value) (a : Option Addr) (c : Nat) (hy : RowS V AnyZ size (.slice a n c) n gl) (hgl : gl.length = n * size) (h1 : ∀ u ∈ gl, u.oneCell' = true) (hn : n ≤ 1048576) :
    ∃ a1 c1 x1, Hid ((Builtin.append_ #[ts, ts] ts #[.slice (some ⟨V.heap.size, 0, none⟩) 0 0, .slice a n c]).run Tryz.prog (V.alloc (.cells #[] t)) = .ok (.slice a1 n c1) x1) ∧ Hid (x1.ownsRow V.heap.size t size (.slice a1 n c1) n gl) ∧ Hid (Below V.heap.size V x1) := by
  have o : (V.alloc (.cells #[] t)).ownsRow V.heap.size t size (.slice (some ⟨V.heap.size, 0, none⟩) 0 0) 0 [] := World.ownsRow_lit (base := V.heap.size) (e := t) (size := size) V #[] 0 (Nat.le_refl _) (Nat.zero_le _) (by simp)
  obtain ⟨a1, c1, x1, r1, r2, r3⟩ := appRow t ts size bytes z hts hinfo hzs h0 hby V.heap.size _ 0 [] n gl a c _ o (hy.kept (below_alloc _)) hgl h1 (by simp) (by omega)
  rw [Nat.zero_add] at r1 r2 r3
  exact ⟨a1, c1, x1, r1, r2, hid ((below_alloc _).trans (r3.out.below (by simp) (fun k hk => (own_type o hk).1)))⟩
theorem putFl {wk : World} {base n c1 k : Nat} {a1 : Option Addr} {fs : List FT} (hn : n = fs.length) (o : wk.ownsRow base 52 7 (.slice a1 n c1) n (rowF fs k)) (hk : k < fs.length) : ∃ g, a1 = some ⟨g, 0, none⟩ ∧ base ≤ g ∧ g < wk.heap.size ∧ wk.cell? ⟨g, k * 7, none⟩ = some (.string (strOfNums fs[k].name)) ∧ (∀ i, wk.frozen? ⟨g, i, none⟩ = false) ∧ Hid ((wk.setCell ⟨g, k * 7, none⟩ (.string (strOfNums (102 :: 95 :: fs[k].name)))).ownsRow base 52 7 (.slice a1 n c1) n (rowF fs (k + 1))) := by
  subst hn
  obtain ⟨a2, c2, e, hv⟩ := own_row o (Z := AnyZ) (fun _ _ => trivial)
  cases e
  rcases o.2 with ⟨_, h0⟩ | ⟨g, cap, cur, e, hbg, hgg, hnc, hcm, hcs, htk⟩
  · omega
  cases e
  have hG : Blk wk g _ cur := hgg
  rcases hv.cells with ⟨hl0, hn0⟩ | ⟨b', off, e2, _, hc⟩
  · omega
  cases e2
  have hput := own_put o (k * 7) (by omega) (.string (strOfNums (102 :: 95 :: fs[k].name)))
  rw [rowF_set fs k hk] at hput
  have hcell := hc (k * 7) _ (rowF_at fs k hk)
  rw [Nat.zero_add] at hcell
  exact ⟨g, rfl, hbg, hG.lt, hcell, hG.frz, hid hput⟩
theorem putOn {wk : World} {base n c1 k : Nat} {a1 : Option Addr} {os : List (List Int)} (hn : n = os.length) (o : wk.ownsRow base 9 1 (.slice a1 n c1) n (rowO os k)) (hk : k < os.length) : ∃ g, a1 = some ⟨g, 0, none⟩ ∧ base ≤ g ∧ g < wk.heap.size ∧ wk.cell? ⟨g, k, none⟩ = some (.string (strOfNums os[k])) ∧ (∀ i, wk.frozen? ⟨g, i, none⟩ = false) ∧ Hid ((wk.setCell ⟨g, k, none⟩ (.string (strOfNums (111 :: 95 :: os[k])))).ownsRow base 9 1 (.slice a1 n c1) n (rowO os (k + 1))) := by
  subst hn
  obtain ⟨a2, c2, e, hv⟩ := own_row o (Z := AnyZ) (fun _ _ => trivial)
  cases e
  rcases o.2 with ⟨_, h0⟩ | ⟨g, cap, cur, e, hbg, hgg, hnc, hcm, hcs, htk⟩
  · omega
  cases e
  have hG : Blk wk g _ cur := hgg
  rcases hv.cells with ⟨hl0, hn0⟩ | ⟨b', off, e2, _, hc⟩
  · omega
  cases e2
  have hput := own_put o k (by omega) (.string (strOfNums (111 :: 95 :: os[k])))
  rw [rowO_set os k hk] at hput
  have hcell := hc k _ (rowO_at os k hk)
  rw [Nat.zero_add] at hcell
  exact ⟨g, rfl, hbg, hG.lt, hcell, hG.frz, hid hput⟩
/-- A type more, behind the list. -/
theorem typApp (base : Nat) (v : Value) (i : Nat) (ys : List TV) (y : TV) (w : World) (h : w.ownsRow base 50 6 v i (ys.flatMap cTV)) (hi : ys.length = i) (hb : base ≤ w.heap.size) (hn : i ≤ 4000) (ho : ∀ u ∈ cTV y, u.oneCell' = true) :
    ∃ a' c' w', Hid ((Builtin.append_ #[22, 22] 22 #[v, .slice (some ⟨w.heap.size, 0, none⟩) 1 1]).run Tryz.prog (w.alloc (.cells #[.string (strOfNums y.t.name), .bool y.t.enum, y.f, y.o, y.s, y.r] 50)) = .ok (.slice a' (i + 1) c') w') ∧ Hid (w'.ownsRow base 50 6 (.slice a' (i + 1) c') (i + 1) ((ys ++ [y]).flatMap cTV)) ∧ Hid (Grow w w' v (.slice a' (i + 1) c')) := by
  have hr : RowS (w.alloc (.cells #[.string (strOfNums y.t.name), .bool y.t.enum, y.f, y.o, y.s, y.r] 50)) AnyZ 6 (.slice (some ⟨w.heap.size, 0, none⟩) 1 1) 1 (cTV y) := rowOf (Blk.new _ _ _) 6 1 _ rfl rfl (by omega)
  obtain ⟨a', c', w', h1, h2, h3⟩ := appRow 50 22 6 120 _ Tryz.underlying22 Tryz.infoTT rfl (by decide) (by decide) base v i _ 1 (cTV y) _ _ (w.alloc (.cells #[.string (strOfNums y.t.name), .bool y.t.enum, y.f, y.o, y.s, y.r] 50)) (h.alloc _) hr rfl ho (by simp; omega) (by omega)
  refine ⟨a', c', w', h1, hid ?_, hid (((Grow.refl w v).alloc _).trans h3.out)⟩
  rw [List.flatMap_append]
  simpa using h2.out
end Go.Proofs.YtbopddnekoocoaaGreatDoor
