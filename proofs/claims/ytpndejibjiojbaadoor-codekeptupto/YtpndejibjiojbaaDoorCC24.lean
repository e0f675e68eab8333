/-
  code: how much can be read out of so many bytes.
  code: Read, in general: two premises.
  code: whether a program is valid hangs on what it holds alone; what is valid can be written.
  code: Read and Bytes, at whatever comes in.
  code: programs that are written over, the others kept.
  code: chapter 16's examples, the programs.
  code: awake, by Valid as it is at every program.
  The document's: are two programs the same?
  A region whose loads are of cells that its own last stores write: what is asked of the world hangs on what has come up.
-/
import Derived.Test.YtpndejibjiojbaaDoorCC18
import Derived.Test.YtpndejibjiojbaaDoorCVP11
import Derived.Test.YtpndejibjiojbaaDoorCC11
import Derived.Test.YtpndejibjiojbaaDoorCKC
import Derived.Test.YtpndejibjiojbaaDoorCTA
import Derived.Deep.RegionHeld3
namespace Go.Proofs.YtpndejibjiojbaaDoor
open Go.RowKit
set_option maxRecDepth 1000000
set_option linter.unusedVariables false
set_option linter.unusedSimpArgs false
set_option maxHeartbeats 2000000
theorem lsF_cost {α : Type} (c : α → Nat) (u : Nat) (part : List Int → Bool → α × List Int × Bool) (hle : ∀ xs f, (part xs f).2.1.length ≤ xs.length) (hc : ∀ xs f, (part xs f).2.2 = false → c (part xs f).1 + u * (part xs f).2.1.length ≤ u * xs.length) : ∀ (n : Nat) (acc : List α) (xs : List Int) (f : Bool), ((lsF part n acc xs f).1.map c).sum + u * (lsF part n acc xs f).2.1.length ≤ (acc.map c).sum + u * xs.length
  | 0, _, _, _ => Nat.le_refl _
  | n + 1, acc, xs, f => by
    rw [lsF]
    split
    · have := Nat.mul_le_mul_left u (hle xs f)
      simp
      omega
    · rename_i hq
      have h1 := hc xs f (by simpa using hq)
      have h2 := lsF_cost c u part hle hc n (acc ++ [(part xs f).1]) (part xs f).2.1 false
      rw [List.map_append, List.sum_append] at h2
      simp at h2
      omega
theorem sum_one {α : Type} (l : List α) : (l.map (fun _ => 1)).sum = l.length := by
  induction l with
  | nil => rfl
  | cons x l ih =>
    rw [List.map_cons, List.sum_cons, ih, List.length_cons]
    omega
theorem lsF_len {α : Type} (part : List Int → Bool → α × List Int × Bool) (hle : ∀ xs f, (part xs f).2.1.length ≤ xs.length) (hlt : ∀ xs f, (part xs f).2.2 = false → (part xs f).2.1.length < xs.length) (n : Nat) (xs : List Int) (f : Bool) : (lsF part n [] xs f).1.length + (lsF part n [] xs f).2.1.length ≤ xs.length := by
  have := lsF_cost (fun _ => 1) 1 part hle (fun xs f h => by have := hlt xs f h; omega) n [] xs f
  rw [sum_one] at this
  simpa using this
theorem blM_le (xs : List Int) (f : Bool) : (blM xs f).2.1.length ≤ xs.length := by
  unfold blM sz3 blK
  dsimp only
  have s1 := (szM_le xs f).1
  have s2 := (szM_le (szM xs f).2.1 (szM xs f).2.2).1
  have s3 := (szM_le (szM (szM xs f).2.1 (szM xs f).2.2).2.1 (szM (szM xs f).2.1 (szM xs f).2.2).2.2).1
  refine Nat.le_trans (lsF_le rwM rwM_le _ _ _ _) (Nat.le_trans (lsF_le spM spM_le _ _ _ _) (Nat.le_trans (lsF_le spM spM_le _ _ _ _) ?_))
  omega
theorem blM_cost (xs : List Int) (f : Bool) (h : (blM xs f).2.2 = false) : bkN (blM xs f).1 + 41 * (blM xs f).2.1.length ≤ 41 * xs.length := by
  unfold blM sz3 blK at h ⊢
  dsimp only at h ⊢
  have h1 := lsF_f rwM rwM_f _ _ _ _ h
  have h2 := lsF_f spM spM_f _ _ _ _ h1
  have h3 := lsF_f spM spM_f _ _ _ _ h2
  have s3 := (szM_le _ _).2 h3
  have s2 := (szM_le _ _).2 s3.1
  have s1 := (szM_le xs f).2 s2.1
  unfold bkN
  dsimp only
  clear h h1 h2 h3
  have t3 := s3.2
  have t2 := s2.2
  have t1 := s1.2
  clear s1 s2 s3
  generalize szM (szM (szM xs f).2.1 (szM xs f).2.2).2.1 (szM (szM xs f).2.1 (szM xs f).2.2).2.2 = o3 at *
  have l1 := lsF_len spM spM_le spM_less (szM xs f).1.toNat o3.2.1 o3.2.2
  generalize lsF spM (szM xs f).1.toNat [] o3.2.1 o3.2.2 = p1 at *
  have l2 := lsF_len spM spM_le spM_less (szM (szM xs f).2.1 (szM xs f).2.2).1.toNat p1.2.1 p1.2.2
  generalize lsF spM (szM (szM xs f).2.1 (szM xs f).2.2).1.toNat [] p1.2.1 p1.2.2 = p2 at *
  have l3 := lsF_len rwM rwM_le rwM_less o3.1.toNat p2.2.1 p2.2.2
  omega
theorem pgN_sum : ∀ bs : List BV, pgN bs = 12 + ((bs.map BV.k).map bkN).sum
  | [] => rfl
  | x :: l => by
    rw [pgN, pgN_sum l]
    simp
    omega
theorem piM_pgN (xs : List Int) (bs : List BV) (h : bs.map BV.k = (piM xs).1) : pgN bs ≤ 12 + 41 * xs.length := by
  rw [pgN_sum, h]
  unfold piM
  have h1 := lsF_cost bkN 41 blM blM_le blM_cost (szM (rest16 xs) (!pre16 xs)).1.toNat [] (szM (rest16 xs) (!pre16 xs)).2.1 (szM (rest16 xs) (!pre16 xs)).2.2
  have h2 := (szM_le (rest16 xs) (!pre16 xs)).1
  have h3 : (rest16 xs).length ≤ xs.length := by
    unfold rest16
    split
    · rw [List.length_drop]; omega
    · exact Nat.le_refl _
  simp only [List.map_nil, List.sum_nil] at h1
  omega
theorem readV (w : World) (ba : Option Addr) (bn bc : Nat) (xs : List Int) (hrb : W.Reads w ba bn bc xs) (hbb : ∀ x, ba = some x → x.block < w.heap.size) (hx : xs.length ≤ 4000000) (vd : Bool)
    (hv : ∀ W0 pa pc (bs : List BV), Below w.heap.size w W0 → LwO W0 w.heap.size (.slice pa bs.length pc) bs → bs.map BV.k = (piM xs).1 → Calls Tryd.prog 10 #[.agg #[.slice pa bs.length pc]] W0 fun e w' => e = .returned (.bool vd) ∧ Below W0.heap.size W0 w')
    (hw : vd = true → ∀ k ∈ (piM xs).1, BkW k) :
    Calls Tryd.prog 6 #[.slice ba bn bc] w (ProgR w (if rdG xs vd = true then (piM xs).1 else []) (if rdG xs vd = true then 0 else 19)) :=
  readT w ba bn bc xs hrb hbb hx vd hv hw (fun bs h => by have := piM_pgN xs bs h; omega) (fun h => pkB_bd (hw h) (by have := piM_pgN xs _ (keyV_map (piM xs).1); omega))
theorem noS_key {x y : BV} (h : x.k = y.k) : noS x = noS y := by unfold noS; rw [h]
theorem noS_keys {bs cs : List BV} (h : bs.map BV.k = cs.map BV.k) : bs.map noS = cs.map noS := by
  have e : noS = (fun k : BK => decide (k.dec.length = 0) && decide (k.enc.length = 0)) ∘ BV.k := rfl
  rw [e, ← List.map_map, h, List.map_map]
theorem enI_keys {bs cs : List BV} (h : bs.map BV.k = cs.map BV.k) : enI bs = enI cs := by
  funext k
  unfold enI
  rw [← List.getElem?_map, noS_keys h, List.getElem?_map]
theorem msI_keys {bs cs : List BV} (h : bs.map BV.k = cs.map BV.k) : msI bs = msI cs := by
  funext k
  unfold msI
  rw [← List.getElem?_map, noS_keys h, List.getElem?_map]
theorem nuI_keys {bs cs : List BV} (h : bs.map BV.k = cs.map BV.k) : nuI bs = nuI cs := by
  funext s
  unfold nuI bkI
  rw [enI_keys h, msI_keys h]
theorem vlP_keys {bs cs : List BV} (h : bs.map BV.k = cs.map BV.k) {x y : BV} (e : x.k = y.k) (q : VlP bs x) : VlP cs y := by
  unfold VlP at q ⊢
  rw [← e, ← noS_key e]
  obtain ⟨q1, q2⟩ := q
  refine ⟨q1, ?_⟩
  by_cases g : noS x = true
  · rw [if_pos g] at q2 ⊢
    exact q2
  · rw [if_neg g] at q2 ⊢
    obtain ⟨d, n⟩ := q2
    refine ⟨⟨d.pos, d.last, d.first, fun i hi => ?_, d.jump, d.rows⟩, ⟨n.pos, n.last, fun i hi => ?_⟩⟩
    · have := d.all i hi
      unfold RoP at this ⊢
      rw [nuI_keys h] at this
      exact this
    · have := n.all i hi
      unfold WoP at this ⊢
      rw [nuI_keys h] at this
      exact this
theorem vdP_keys {bs cs : List BV} (h : bs.map BV.k = cs.map BV.k) (q : VdP bs) : VdP cs := by
  refine ⟨?_, fun y hy => ?_⟩
  · have e := congrArg List.length h
    have := q.1
    simp at e
    omega
  · have h1 : y.k ∈ bs.map BV.k := by rw [h]; exact List.mem_map_of_mem hy
    obtain ⟨x, hx, e⟩ := List.mem_map.1 h1
    exact vlP_keys h e (q.2 x hx)
noncomputable def vdB (ks : List BK) : Bool := @decide (VdP (ks.map keyV)) (Classical.propDecidable _)
theorem vdB_iff {bs : List BV} {ks : List BK} (h : bs.map BV.k = ks) : vdB ks = true ↔ VdP bs := by
  unfold vdB
  rw [@decide_eq_true_iff _ (Classical.propDecidable _)]
  exact ⟨vdP_keys (by rw [keyV_map, h]), vdP_keys (by rw [keyV_map, h])⟩
theorem enI_bd {bs : List BV} {k : Int} (h : enI bs k = true) : 0 ≤ k ∧ k < bs.length := by
  refine ⟨?_, ?_⟩
  · by_cases q : k < 0
    · rw [enI_lo q] at h; cases h
    · omega
  · by_cases q : (bs.length : Int) ≤ k
    · rw [enI_hi q] at h; cases h
    · omega
theorem msI_bd {bs : List BV} {k : Int} (h : msI bs k = true) : 0 ≤ k ∧ k < bs.length := by
  refine ⟨?_, ?_⟩
  · by_cases q : k < 0
    · rw [msI_lo q] at h; cases h
    · omega
  · by_cases q : (bs.length : Int) ≤ k
    · rw [msI_hi q] at h; cases h
    · omega
theorem bkI_bd {bs : List BV} {t k : Int} (h : bkI bs t k = true) : 0 ≤ k ∧ (k < bs.length ∨ k = 0) := by
  unfold bkI at h
  split at h
  · have := enI_bd h; omega
  · split at h
    · have := msI_bd h; omega
    · rw [decide_eq_true_eq] at h; omega
def R64 (x : Int) : Prop := 0 ≤ x ∧ x ≤ 9223372036854775806
theorem nuI_bd {bs : List BV} (hb : bs.length ≤ 128) {s : IN} (h : nuI bs s = true) : (R64 s.a ∨ s.op = 3 ∨ s.op = 4) ∧ (R64 s.b ∨ s.op = 2 ∨ s.op = 16) ∧ R64 s.c ∧ R64 s.d := by
  have e1 : ∀ k, enI bs k = true → 0 ≤ k ∧ k < 128 := fun k q => by have := enI_bd q; omega
  have e2 : ∀ k, msI bs k = true → 0 ≤ k ∧ k < 128 := fun k q => by have := msI_bd q; omega
  have e3 : ∀ t k, bkI bs t k = true → 0 ≤ k ∧ k < 129 := fun t k q => by have := bkI_bd q; omega
  unfold nuI fdI tgI sgI kdI knum kkey at h
  unfold R64
  generalize bkI bs = B at *
  generalize enI bs = E at *
  generalize msI bs = M at *
  clear hb
  grind (splits := 60)
theorem dec_InW {bs : List BV} (hb : bs.length ≤ 128) {n i : Nat} (hi : i < n) (hn : n ≤ 140737488355328) {s : IN} (h : RoP bs n i s) : InW s := by
  obtain ⟨h1, -, h3, h4, h5, h6⟩ := h
  obtain ⟨n1, n2, n3, n4⟩ := nuI_bd hb h3
  unfold R64 at *
  refine ⟨by omega, fun x hx => ?_⟩
  simp only [insN, List.mem_cons, List.not_mem_nil, or_false] at hx
  rcases hx with rfl | rfl | rfl | rfl <;> omega
theorem enc_InW {bs : List BV} (hb : bs.length ≤ 128) {n i : Nat} (hi : i < n) (hn : n ≤ 140737488355328) {s : IN} (h : WoP bs n i s) : InW s := by
  obtain ⟨h1, -, h3, h4⟩ := h
  obtain ⟨n1, n2, n3, n4⟩ := nuI_bd hb h3
  unfold R64 at *
  refine ⟨by omega, fun x hx => ?_⟩
  simp only [insN, List.mem_cons, List.not_mem_nil, or_false] at hx
  rcases hx with rfl | rfl | rfl | rfl <;> omega
theorem lj_any : ∀ (l : List IN) (j : Nat), j ≤ l.length → ∃ p, LJ l j p := by
  intro l j
  induction j with
  | zero => exact fun _ => ⟨0, .inl ⟨rfl, fun i h hi => by omega⟩⟩
  | succ j ih =>
    intro hj
    obtain ⟨p, hp⟩ := ih (by omega)
    by_cases q : (l[j]'(by omega)).op = 3
    · exact ⟨j, LJ.yes (by omega) q⟩
    · exact ⟨p, hp.no (by omega) q⟩
/-- What is valid can be written. -/
theorem valid_BkW {bs : List BV} (h : VdP bs) (hz : ∀ x ∈ bs, x.k.dec.length ≤ 140737488355328 ∧ x.k.enc.length ≤ 140737488355328) : ∀ x ∈ bs, BkW x.k := by
  intro x hx
  obtain ⟨z1, z2⟩ := hz x hx
  obtain ⟨-, q⟩ := h.2 x hx
  by_cases g : noS x = true
  · rw [if_pos g] at q
    unfold noS at g
    rw [Bool.and_eq_true, decide_eq_true_eq, decide_eq_true_eq] at g
    refine ⟨fun s hs => ?_, fun s hs => ?_, fun r hr => ?_⟩
    · rw [List.length_eq_zero_iff.1 g.1] at hs; cases hs
    · rw [List.length_eq_zero_iff.1 g.2] at hs; cases hs
    · have := q.rows r hr
      omega
  · rw [if_neg g] at q
    obtain ⟨d, e⟩ := q
    refine ⟨fun s hs => ?_, fun s hs => ?_, fun r hr => ?_⟩
    · obtain ⟨i, hi, rfl⟩ := List.getElem_of_mem hs
      exact dec_InW h.1 hi z1 (d.all i hi)
    · obtain ⟨i, hi, rfl⟩ := List.getElem_of_mem hs
      exact enc_InW h.1 hi z2 (e.all i hi)
    · obtain ⟨r1, r2, r3⟩ := d.rows r hr
      obtain ⟨p, hp⟩ := lj_any x.k.dec x.k.dec.length (Nat.le_refl _)
      have := r2 p hp
      unfold tgI at r1
      rw [decide_eq_true_eq] at r1
      omega
theorem nbM_i64 (xs : List Int) (f : Bool) : I64 (nbM xs f).1 := by unfold nbM I64 wrap64; dsimp only; omega
theorem nsM_i64 : ∀ (k : Nat) (xs : List Int) (f : Bool), ∀ x ∈ (nsM k xs f).1, I64 x
  | 0, _, _, x, h => by cases h
  | k + 1, xs, f, x, h => by
    have h' : x ∈ (nsM k xs f).1 ++ [(nbM (nsM k xs f).2.1 (nsM k xs f).2.2).1] := h
    rcases List.mem_append.1 h' with h' | h'
    · exact nsM_i64 k xs f x h'
    · simp only [List.mem_cons, List.not_mem_nil, or_false] at h'
      subst h'
      exact nbM_i64 _ _
theorem opM_i64 (xs : List Int) (f : Bool) : I64 (opM xs f).1 := by
  unfold opM I64
  split
  · dsimp only; omega
  · dsimp only; omega
  · split <;> dsimp only <;> omega
theorem getD_i64 {l : List Int} (h : ∀ x ∈ l, I64 x) (i : Nat) : I64 (l[i]?.getD 0) := by
  cases e : l[i]? with
  | none => exact ⟨by decide, by decide⟩
  | some x => exact h x (List.mem_of_getElem? e)
theorem spM_i5 (xs : List Int) (f : Bool) : I5 (spM xs f).1 := by
  have h := nsM_i64 (opC (opM xs f).1) (opM xs f).2.1 (opM xs f).2.2
  exact ⟨opM_i64 xs f, getD_i64 h 0, getD_i64 h 1, getD_i64 h 2, getD_i64 h 3⟩
theorem rwM_i (xs : List Int) (f : Bool) : (rwM xs f).1.tag ≤ 9223372036854775807 := (nbM_i64 xs f).2
theorem lsF_all {α : Type} (part : List Int → Bool → α × List Int × Bool) (P : α → Prop) (hp : ∀ xs f, P (part xs f).1) : ∀ (n : Nat) (acc : List α) (xs : List Int) (f : Bool), (∀ a ∈ acc, P a) → ∀ a ∈ (lsF part n acc xs f).1, P a
  | 0, acc, xs, f, h, a, ha => h a ha
  | n + 1, acc, xs, f, h, a, ha => by
    rw [lsF] at ha
    split at ha
    · cases ha
    · refine lsF_all part P hp n _ _ _ (fun b hb => ?_) a ha
      rcases List.mem_append.1 hb with hb | hb
      · exact h b hb
      · simp only [List.mem_cons, List.not_mem_nil, or_false] at hb
        subst hb
        exact hp _ _
structure IK (k : BK) : Prop where
  dec : ∀ s ∈ k.dec, I5 s
  enc : ∀ s ∈ k.enc, I5 s
  rows : ∀ r ∈ k.rows, r.tag ≤ 9223372036854775807
theorem IK.ib {x : BV} (h : IK x.k) : IB x := ⟨h.dec, h.enc, h.rows⟩
theorem IB.ik {x : BV} (h : IB x) : IK x.k := ⟨h.dec, h.enc, h.rows⟩
theorem blM_ik (xs : List Int) (f : Bool) : IK (blM xs f).1 := by
  unfold blM blK
  exact ⟨lsF_all spM I5 spM_i5 _ _ _ _ (fun a h => by cases h), lsF_all spM I5 spM_i5 _ _ _ _ (fun a h => by cases h), lsF_all rwM (fun r => r.tag ≤ 9223372036854775807) rwM_i _ _ _ _ (fun a h => by cases h)⟩
theorem piM_ik (xs : List Int) : ∀ k ∈ (piM xs).1, IK k := by
  unfold piM
  exact lsF_all blM IK blM_ik _ _ _ _ (fun a h => by cases h)
theorem pgN_hz {bs : List BV} (h : pgN bs ≤ 140737488355328) : ∀ x ∈ bs, x.k.dec.length ≤ 140737488355328 ∧ x.k.enc.length ≤ 140737488355328 := fun x hx => by
  have := pgN_mem bs x hx
  unfold bkN at this
  omega
/-- Valid: by what the program holds. -/
theorem validK (w : World) (bs : List BV) (ba : Option Addr) (bc : Nat) (hp : PgR w (.slice ba bs.length bc) bs) (hl : pgN bs ≤ 140737488355328) (hI : ∀ x ∈ bs, IK x.k) : Calls Tryd.prog 10 #[.agg #[.slice ba bs.length bc]] w fun e w' => e = .returned (.bool (vdB (bs.map BV.k))) ∧ Below w.heap.size w w' :=
  (validB w bs ba bc hp (pgN_hz hl) (fun x hx => (hI x hx).ib)).mono fun e w' ⟨r, h1, h2, h3⟩ => by
    have : r = vdB (bs.map BV.k) := by
      have h4 := vdB_iff (bs := bs) rfl
      rw [← h2] at h4
      cases r <;> cases e : vdB (bs.map BV.k) <;> simp_all
    rw [← this]
    exact ⟨h1, h3⟩
noncomputable def rdK (xs : List Int) : List BK := if rdG xs (vdB (piM xs).1) = true then (piM xs).1 else []
noncomputable def rdE (xs : List Int) : Int := if rdG xs (vdB (piM xs).1) = true then 0 else 19
/-- Read: whatever bytes. -/
theorem readK (w : World) (ba : Option Addr) (bn bc : Nat) (xs : List Int) (hrb : W.Reads w ba bn bc xs) (hbb : ∀ x, ba = some x → x.block < w.heap.size) (hx : xs.length ≤ 4000000) : Calls Tryd.prog 6 #[.slice ba bn bc] w (ProgR w (rdK xs) (rdE xs)) := by
  have hN : ∀ bs : List BV, bs.map BV.k = (piM xs).1 → pgN bs ≤ 140737488355328 := fun bs h => by have := piM_pgN xs bs h; omega
  refine readV w ba bn bc xs hrb hbb hx (vdB (piM xs).1) (fun W0 pa pc bs _ ho hm => ?_) (fun hv k hk => ?_)
  · rw [← hm]
    exact validK W0 bs pa pc (lwProg ho) (hN bs hm) (fun x hx => piM_ik xs x.k (by rw [← hm]; exact List.mem_map_of_mem hx))
  · have h1 := valid_BkW ((vdB_iff (keyV_map (piM xs).1)).1 hv) (pgN_hz (hN _ (keyV_map _))) (keyV k) (List.mem_map_of_mem hk)
    exact h1
noncomputable def byB (ks : List BK) : List Int := if vdB ks = true then pkB ks else []
noncomputable def byE (ks : List BK) : Int := if vdB ks = true then 0 else 19
def BytA (w : World) (ys : List Int) (er : Int) (e : Ending) (w' : World) : Prop := ∃ v, e = .returned (.tuple #[v, .int .i64 er]) ∧ OwnB w' w.heap.size v ys ∧ Below w.heap.size w w'
/-- Bytes: whatever program. -/
theorem bytesK (w : World) (bs : List BV) (ba : Option Addr) (bc : Nat) (hp : PgR w (.slice ba bs.length bc) bs) (hl : pgN bs ≤ 140737488355328) (hI : ∀ x ∈ bs, IK x.k) : Calls Tryd.prog 5 #[.agg #[.slice ba bs.length bc]] w (BytA w (byB (bs.map BV.k)) (byE (bs.map BV.k))) := by
  have HV := hid fun W0 (hW : Below w.heap.size w W0) => validK W0 bs ba bc (hp.kept hW) hl hI
  unfold byB byE
  cases hv : vdB (bs.map BV.k) with
  | true =>
    rw [hv] at HV
    rw [if_pos rfl, if_pos rfl, ← pkB_pg]
    exact bytesOk w bs ba bc hp (valid_BkW ((vdB_iff rfl).1 hv) (pgN_hz hl)) hl HV.out
  | false =>
    rw [hv] at HV
    rw [if_neg (by decide), if_neg (by decide)]
    clear hp hl hI hv
    go_enter Tryd.func5, Tryd.ntmps5
    go_wp2_with fail
    refine (HV.out _ (below_alloc _)).mono ?_
    rintro e w1 ⟨rfl, hb1⟩
    have HB1 : Hid (Below w.heap.size w w1) := hid (bl_then (below_alloc _) hb1)
    clear hb1
    go_wp2
    go_ret2
    exact ⟨_, rfl, World.ownsRow_nil _ _ _ _, HB1.out⟩
theorem twoReads {w : World} {b : Nat} {x y : Int} (h : Blk w b 5 #[.int .u8 x, .int .u8 y]) (hx : 0 ≤ x ∧ x ≤ 255) (hy : 0 ≤ y ∧ y ≤ 255) : W.Reads w (some ⟨b, 0, none⟩) 2 2 [x, y] := by
  refine ⟨rfl, Nat.le_refl _, by decide, fun i => ?_, .inr ⟨b, 0, rfl, fun i hi => ?_⟩⟩
  · rcases i with _ | _ | i
    · exact hx
    · exact hy
    · simp
  · rw [h.cellF]
    rcases i with _ | _ | i
    · rfl
    · rfl
    · omega
theorem copy201 (w : World) (a : Option Addr) (len cap : Nat) (xs : List Int) (h : W.Reads w a len cap xs) (hm : xs.length ≤ 4000000) :
    ∃ v3 w3 g c w4, Hid ((Builtin.append_ #[25, 25] 25 #[.slice (some ⟨w.heap.size, 0, none⟩) 0 0, .slice a len cap]).run Tryd.prog (w.alloc (.cells #[] 5)) = .ok v3 w3) ∧
      Hid ((Builtin.append_ #[25, 25] 25 #[v3, .slice (some ⟨w3.heap.size, 0, none⟩) 1 1]).run Tryd.prog (w3.alloc (.cells #[.int .u8 201] 5)) = .ok (.slice (some ⟨g, 0, none⟩) (len + 1) c) w4) ∧ len + 1 ≤ c ∧ c ≤ 9223372036854775807 ∧
      Hid (W.Reads w4 (some ⟨g, 0, none⟩) len c xs) ∧ Hid (w4.cell? ⟨g, len, none⟩ = some (.int .u8 201)) ∧ Hid (Below w.heap.size w w4) ∧ g < w4.heap.size := by
  have hl := h.length
  have o0 : OwnB (w.alloc (.cells #[] 5)) w.heap.size (.slice (some ⟨w.heap.size, 0, none⟩) 0 0) [] := World.ownsRow_made w #[] 0 (Nat.le_refl _) (by unfold maxLen; omega) rfl
  obtain ⟨v3, w3, r3, o3, g3⟩ := addBytes w.heap.size _ [] (w.alloc (.cells #[] 5)) a len cap xs o0 (by simp) (W.reads_kept h (below_alloc _)) (by simp; omega)
  have b3 : Below w.heap.size w w3 := growBl (below_alloc _) o0 g3.out
  have o3' := o3.out.kept (below_alloc (w := w3) (.cells #[.int .u8 201] 5))
  obtain ⟨v4, w4, r4, o4, g4⟩ := addBytes w.heap.size v3 _ (w3.alloc (.cells #[.int .u8 201] 5)) (some ⟨w3.heap.size, 0, none⟩) 1 1 [201] o3' (by have := b3.size; simp; omega) (oneReads (Blk.new _ _ _) (by decide)) (by simp; omega)
  have b4 : Below w.heap.size w w4 := growBl (bl_alloc b3 _) o3' g4.out
  have o4' := o4.out
  unfold OwnB at o4'
  rcases o4'.2 with ⟨_, e⟩ | ⟨g, c, cur, e, hbg, hg, hnc, hcm, hcs, htake⟩
  · simp at e
  · subst e
    have hlt : g < w4.heap.size := (Array.getElem?_eq_some_iff.1 hg).1
    have hcm' : c ≤ 9223372036854775807 := by simpa [maxLen] using hcm
    have en : ([] ++ xs ++ [(201 : Int)]).length = len + 1 := by simp; omega
    rw [en] at r4 hnc
    have hc : ∀ j, j < len + 1 → w4.cell? ⟨g, j, none⟩ = (List.map (Value.int .u8) ([] ++ xs ++ [201]))[j]? := fun j hj => o4'.cellAt j (by rw [Nat.mul_one, en]; exact hj)
    refine ⟨v3, w3, g, c, w4, r3, r4, hnc, hcm', hid ⟨hl, by omega, hcm', h.bd, .inr ⟨g, 0, rfl, fun i hi => ?_⟩⟩, hid ?_, hid b4, hlt⟩
    · rw [Nat.zero_add, hc i (by omega)]
      have hi' : i < xs.length := by omega
      simp [List.getElem?_append_left, hi']
    · rw [hc len (by omega)]
      simp [hl]
theorem own_put {w : World} {base e size g n cap : Nat} {fl : List Value} (h : w.ownsRow base e size (.slice (some ⟨g, 0, none⟩) n cap) n fl) (j : Nat) (hj : j < n * size) (v : Value) : (w.setCell ⟨g, j, none⟩ v).ownsRow base e size (.slice (some ⟨g, 0, none⟩) n cap) n (fl.set j v) := by
  refine ⟨by rw [List.length_set]; exact h.1, ?_⟩
  rcases h.2 with ⟨e, _⟩ | ⟨g', cap', cur, e, hbg, hgg, hnc, hcm, hcs, htk⟩
  · cases e
  cases e
  refine .inr ⟨g, cap, cur.setIfInBounds j v, rfl, hbg, Blk.set hgg j v, hnc, hcm, by simpa using hcs, ?_⟩
  rw [← htk]
  simp [List.take_set]
theorem own_oth {w : World} {base e size n q j : Nat} {v u : Value} {fl : List Value} (h : w.ownsRow base e size v n fl) (hq : v.ownBlock ≠ some q) : (w.setCell ⟨q, j, none⟩ u).ownsRow base e size v n fl :=
  own_keep (f := (· ≠ q)) h (fun k hk e => hq (by rw [← e]; exact hk)) (Keep.setCell _ _ _ (fun h => h rfl))
theorem own_apT {w : World} {b1 b2 e1 e2 z1 z2 n1 n2 k : Nat} {u v : Value} {f1 f2 : List Value} (h : w.ownsRow b1 e1 z1 u n1 f1) (g : w.ownsRow b2 e2 z2 v n2 f2) (ht : e1 ≠ e2) (hk : u.ownBlock = some k) : v.ownBlock ≠ some k := fun hv => by
  obtain ⟨_, _, c1, q1⟩ := own_type h hk
  obtain ⟨_, _, c2, q2⟩ := own_type g hv
  rw [q1] at q2
  cases q2
  exact ht rfl
/-- Where a program's rows lie. -/
structure QS (hi : Nat) (v : Value) (xs : List BV) : Prop where
  vb : ∀ b, v.ownBlock = some b → b < hi
  db : ∀ x ∈ xs, ∀ b, x.d.ownBlock = some b → b < hi
  eb : ∀ x ∈ xs, ∀ b, x.e.ownBlock = some b → b < hi
  ap : ∀ x ∈ xs, ∀ b, x.d.ownBlock = some b → x.e.ownBlock ≠ some b
  pw : ApL xs
theorem QS.of {w : World} {base : Nat} {v : Value} {xs : List BV} (h : LwO w base v xs) (ha : ApL xs) : QS w.heap.size v xs := ⟨fun b q => (own_type h.row q).2.1, fun x hx b q => (own_type (h.el x hx).hd q).2.1, fun x hx b q => (own_type (h.el x hx).he q).2.1, fun x hx => (h.el x hx).ap, ha⟩
/-- A program that is written over, up to its block i. -/
structure QI (V wr : World) (base hi : Nat) (v : Value) (xs : List BV) (i : Nat) : Prop where
  row : ∃ ys : List BV, ys.length = xs.length ∧ (∀ j, i ≤ j → ys[j]? = xs[j]?) ∧ wr.ownsRow base 35 3 v xs.length (ys.flatMap cBV)
  el : ∀ j (h : j < xs.length), i ≤ j → (∃ fl, wr.ownsRow base 37 5 xs[j].d xs[j].k.dec.length fl) ∧ (∃ fl, wr.ownsRow base 37 5 xs[j].e xs[j].k.enc.length fl)
  kp : Keep (fun b => b < base ∨ hi ≤ b) V wr
theorem QI.start {V : World} {base : Nat} {v : Value} {xs : List BV} (h : LwO V base v xs) (hi : Nat) : QI V V base hi v xs 0 := ⟨⟨xs, rfl, fun _ _ => rfl, h.row⟩, fun j hj _ => ⟨⟨_, (h.el _ (List.getElem_mem hj)).hd⟩, ⟨_, (h.el _ (List.getElem_mem hj)).he⟩⟩, Keep.refl _ _⟩
theorem QI.kept {V wr wr' : World} {base hi : Nat} {v : Value} {xs : List BV} {i : Nat} (H : QI V wr base hi v xs i) (g : Below wr.heap.size wr wr') : QI V wr' base hi v xs i := by
  obtain ⟨ys, e1, e2, o⟩ := H.row
  refine ⟨⟨ys, e1, e2, own_kept o g⟩, fun j hj hij => ?_, H.kp.trans (Keep.ofBelow g)⟩
  obtain ⟨⟨g1, p1⟩, ⟨g2, p2⟩⟩ := H.el j hj hij
  exact ⟨⟨g1, own_kept p1 g⟩, ⟨g2, own_kept p2 g⟩⟩
theorem flat3 : ∀ (ys : List BV) (i : Nat) (h : i < ys.length), (ys.flatMap cBV)[i * 3]? = some ys[i].d ∧ (ys.flatMap cBV)[i * 3 + 1]? = some ys[i].e ∧ (ys.flatMap cBV)[i * 3 + 2]? = some ys[i].r
  | [], _, h => by cases h
  | y :: ys, 0, _ => by simp [cBV]
  | y :: ys, i + 1, h => by
    have := flat3 ys i (by simpa using h)
    have e0 : (i + 1) * 3 = i * 3 + 3 := by omega
    rw [List.flatMap_cons, e0]
    simpa [cBV, List.getElem?_append_right, Nat.add_assoc] using this
theorem flat_set : ∀ (ys : List BV) (i : Nat) (h : i < ys.length) (u : Value), (ys.flatMap cBV).set (i * 3 + 1) u = (ys.set i ⟨ys[i].k, ys[i].d, u, ys[i].r⟩).flatMap cBV
  | [], _, h, _ => by cases h
  | y :: ys, 0, _, u => by simp [cBV]
  | y :: ys, i + 1, h, u => by
    have := flat_set ys i (by simpa using h) u
    have e0 : (i + 1) * 3 + 1 = i * 3 + 1 + 3 := by omega
    rw [List.flatMap_cons, e0]
    simp [cBV] at this ⊢
    exact this
theorem QI.at_ {V wr : World} {base hi : Nat} {v : Value} {xs : List BV} {i : Nat} (H : QI V wr base hi v xs i) (h : i < xs.length) : ∃ gv c cur, v = .slice (some ⟨gv, 0, none⟩) xs.length c ∧ Blk wr gv 35 cur ∧ wr.cell? ⟨gv, i * 3, none⟩ = some xs[i].d ∧ wr.cell? ⟨gv, i * 3 + 1, none⟩ = some xs[i].e := by
  obtain ⟨ys, e1, e2, o⟩ := H.row
  have hy : i < ys.length := by omega
  have e3 : ys[i] = xs[i] := by
    have := e2 i (Nat.le_refl _)
    rw [List.getElem?_eq_getElem hy, List.getElem?_eq_getElem h] at this
    exact Option.some.inj this
  obtain ⟨f1, f2, _⟩ := flat3 ys i hy
  rw [e3] at f1 f2
  have c0 := fun g c (e : v = .slice (some ⟨g, 0, none⟩) xs.length c) j (hj : j < xs.length * 3) => (by rw [e] at o; exact o.cellAt j hj : wr.cell? ⟨g, j, none⟩ = (ys.flatMap cBV)[j]?)
  rcases o.2 with ⟨_, h0⟩ | ⟨g, cap, cur, e, hbg, hgg, hnc, hcm, hcs, htk⟩
  · omega
  exact ⟨g, cap, cur, e, hgg, (c0 g cap e _ (by omega)).trans f1, (c0 g cap e _ (by omega)).trans f2⟩
theorem ApL.at_ {xs : List BV} (h : ApL xs) {i j : Nat} (hi : i < xs.length) (hj : j < xs.length) (hij : i < j) : ApB xs[i] xs[j] := List.pairwise_iff_getElem.1 h i j hi hj hij
theorem QI.putD {V wr : World} {base hi : Nat} {v : Value} {xs : List BV} {i : Nat} (H : QI V wr base hi v xs i) (S : QS hi v xs) (h : i < xs.length) {g c : Nat} (e : xs[i].d = .slice (some ⟨g, 0, none⟩) xs[i].k.dec.length c) (j : Nat) (hj : j < xs[i].k.dec.length * 5) (u : Value) : QI V (wr.setCell ⟨g, j, none⟩ u) base hi v xs i := by
  obtain ⟨⟨f1, o1⟩, ⟨f2, o2⟩⟩ := H.el i h (Nat.le_refl _)
  have hd : xs[i].d.ownBlock = some g := by rw [e]; rfl
  have hg := own_type o1 hd
  obtain ⟨ys, e1, e2, o⟩ := H.row
  refine ⟨⟨ys, e1, e2, own_oth o (fun q => own_apT o o1 (by decide) q hd)⟩, fun j' hj' hij => ?_, H.kp.trans (Keep.setCell _ _ _ ?_)⟩
  · by_cases q : i = j'
    · subst q
      rw [e] at o1
      exact ⟨⟨_, by rw [e]; exact own_put o1 j hj u⟩, ⟨f2, own_oth o2 (S.ap _ (List.getElem_mem h) g hd)⟩⟩
    · obtain ⟨⟨g1, p1⟩, ⟨g2, p2⟩⟩ := H.el j' hj' hij
      have := (S.pw.at_ h hj' (by omega)) g (.inl hd)
      exact ⟨⟨g1, own_oth p1 this.1⟩, ⟨g2, own_oth p2 this.2⟩⟩
  · have := S.db _ (List.getElem_mem h) g hd
    have := hg.1
    show ¬ (g < base ∨ hi ≤ g)
    omega
theorem QI.next {V wr w' : World} {base hi : Nat} {v v' : Value} {xs : List BV} {i : Nat} (H : QI V wr base hi v xs i) (S : QS hi v xs) (h : i < xs.length) {gv c : Nat} (ev : v = .slice (some ⟨gv, 0, none⟩) xs.length c) (g : Grow wr w' xs[i].e v') : QI V (w'.setCell ⟨gv, i * 3 + 1, none⟩ v') base hi v xs (i + 1) := by
  obtain ⟨⟨f1, o1⟩, ⟨f2, o2⟩⟩ := H.el i h (Nat.le_refl _)
  obtain ⟨ys, e1, e2, o⟩ := H.row
  have hv : v.ownBlock = some gv := by rw [ev]; rfl
  have hgv := own_type o hv
  have o' := own_growG g o2 o (by decide)
  have hy : i < ys.length := by omega
  refine ⟨⟨ys.set i ⟨ys[i].k, ys[i].d, v', ys[i].r⟩, by rw [List.length_set]; exact e1, fun j hj => ?_, ?_⟩, fun j hj hij => ?_, ?_⟩
  · rw [List.getElem?_set_ne (by omega)]
    exact e2 j (by omega)
  · rw [← flat_set ys i hy]
    rw [ev] at o' ⊢
    exact own_put o' _ (by omega) _
  · obtain ⟨⟨g1, p1⟩, ⟨g2, p2⟩⟩ := H.el j hj (by omega)
    have ha := S.pw.at_ h hj (by omega)
    have q1 : w'.ownsRow base 37 5 xs[j].d xs[j].k.dec.length g1 := own_keep (f := fun b => xs[i].e.ownBlock ≠ some b) p1 (fun k hk q => (ha k (.inr q)).1 hk) (Keep.ofGrow g (fun _ hk => hk))
    have q2 : w'.ownsRow base 37 5 xs[j].e xs[j].k.enc.length g2 := own_keep (f := fun b => xs[i].e.ownBlock ≠ some b) p2 (fun k hk q => (ha k (.inr q)).2 hk) (Keep.ofGrow g (fun _ hk => hk))
    exact ⟨⟨g1, own_oth q1 (own_apT o' q1 (by decide) hv)⟩, ⟨g2, own_oth q2 (own_apT o' q2 (by decide) hv)⟩⟩
  · refine (H.kp.trans (Keep.ofGrow g (fun k hk q => ?_))).trans (Keep.setCell _ _ _ ?_)
    · have := S.eb _ (List.getElem_mem h) k q
      have := (own_type o2 q).1
      omega
    · have := S.vb gv hv
      have := hgv.1
      show ¬ (gv < base ∨ hi ≤ gv)
      omega
/-- One step more, appended. -/
theorem app1 {w : World} {base n : Nat} {v : Value} {fl : List Value} (o : w.ownsRow base 37 5 v n fl) (hb : base ≤ w.heap.size) (hn : n ≤ 4000000) (x : Int) :
    ∃ a c w', Hid ((Builtin.append_ #[32, 32] 32 #[v, .slice (some ⟨w.heap.size, 0, none⟩) 1 1]).run Tryd.prog (w.alloc (.cells #[.int .i64 x, .int .i64 0, .int .i64 0, .int .i64 0, .int .i64 0] 37)) = .ok (.slice a (n + 1) c) w') ∧ Hid (Grow w w' v (.slice a (n + 1) c)) := by
  obtain ⟨v', w', r1, r2, r3⟩ := append_st 37 32 5 40 (.agg #[.int .i64 0, .int .i64 0, .int .i64 0, .int .i64 0, .int .i64 0]) Tryd.underlying32 Tryd.infoI16 rfl (by decide) (by decide) base v n fl w #[.int .i64 x, .int .i64 0, .int .i64 0, .int .i64 0, .int .i64 0] rfl (fun u hu => by simp at hu; rcases hu with rfl | rfl <;> rfl) o hb hn
  obtain ⟨a, c, rfl⟩ := own_shape r2
  exact ⟨a, c, w', hid r1, hid r3⟩
def oneK : BK := ⟨[], [], [⟨0, 0⟩]⟩
theorem bwOne : BkW oneK := ⟨fun s hs => (by cases hs), fun s hs => (by cases hs), (by decide)⟩
/-- Few digits. -/
def itS (n : Int) : List Int := if 0 ≤ n ∧ n < 10 then [48 + n] else if 0 ≤ n ∧ n < 100 then [48 + n / 10, 48 + n % 10] else []
def smP (n : Int) : Prop := 0 ≤ n ∧ n < 100
theorem itS_ok : ItP itS := by
  refine ⟨fun n c hc => ?_, fun n => ?_⟩
  · unfold itS at hc
    split at hc
    · simp only [List.mem_cons, List.not_mem_nil, or_false] at hc
      omega
    · split at hc
      · simp only [List.mem_cons, List.not_mem_nil, or_false] at hc
        omega
      · cases hc
  · unfold itS
    split
    · exact (by decide : 1 ≤ 20)
    · split
      · exact (by decide : 2 ≤ 20)
      · exact Nat.zero_le _
theorem itoaS (W0 : World) (n : Int) (h : smP n) : ItoaOk itS W0 n := by
  unfold smP at h
  obtain ⟨i, rfl⟩ : ∃ i : Nat, n = (i : Int) := ⟨n.toNat, by omega⟩
  have hi : i < 100 := by omega
  refine (Tryd.strconv_Itoa_small i hi W0).mono ?_
  rintro e w' ⟨rfl, rfl⟩
  refine ⟨?_, Below.refl _ _⟩
  congr 2
  unfold itS strOfNums
  by_cases h1 : i < 10
  · rw [if_pos (by omega), Lib.decDigits_one h1]
    simp only [List.map_cons, List.map_nil]
    have : (48 + (i : Int)).toNat = 48 + i := by omega
    rw [this]
  · rw [if_neg (by omega), if_pos (by omega), Lib.decDigits_two h1 hi]
    simp only [List.map_cons, List.map_nil]
    have e1 : (48 + (i : Int) / 10).toNat = 48 + i / 10 := by omega
    have e2 : (48 + (i : Int) % 10).toNat = 48 + i % 10 := by omega
    rw [e1, e2]
theorem bpOne : BkP smP oneK := ⟨fun j hj => absurd hj (Nat.not_lt_zero _), fun j hj => absurd hj (Nat.not_lt_zero _), fun s hs => (by cases hs), fun s hs => (by cases hs), (show ∀ r ∈ oneK.rows, (0 ≤ r.tag ∧ r.tag < 100) ∧ 0 ≤ r.pl ∧ r.pl < 100 by decide)⟩
def tinyT : List Int := [98, 108, 111, 99, 107, 32, 48, 10, 32, 32, 114, 111, 119, 32, 48, 32, 48, 10]
theorem tiny_text (d e r : Value) : txB itS [⟨oneK, d, e, r⟩] 0 = tinyT := by kernel_rfl
theorem tiny_bytes (d e r : Value) : pgB [⟨oneK, d, e, r⟩] = [67, 84, 1, 0, 0, 1, 0, 0] := by kernel_rfl
theorem tinyP (w : World) : Calls Tryd.prog 8 #[] w fun e w' => ∃ b r : Nat, e = .returned (.agg #[.slice (some ⟨b, 0, none⟩) 1 1]) ∧ PgR w' (.slice (some ⟨b, 0, none⟩) 1 1) [⟨oneK, .slice none 0 0, .slice none 0 0, .slice (some ⟨r, 0, none⟩) 1 1⟩] ∧ Below w.heap.size w w' := by
  go_enter Tryd.func8, Tryd.ntmps8
  go_wp2
  refine bodyPost_ret (v := .agg #[.slice (some ⟨w.heap.size + 1 + 1, 0, none⟩) 1 1]) (by simp [results, Tryd.results8, go_sem]) rfl ?_
  refine ⟨_, w.heap.size + 1, rfl, ⟨?_, ?_⟩, by exact blBy⟩
  · refine rowOf' (t := 35) (cs := #[.slice none 0 0, .slice none 0 0, .slice (some ⟨w.heap.size + 1, 0, none⟩) 1 1]) ?_ 3 1 _ rfl rfl (by decide)
    exact Blk.newAt (by simp)
  · intro x hx
    simp only [List.mem_cons, List.not_mem_nil, or_false] at hx
    subst hx
    refine ⟨rowS_nil _ _ _, rowS_nil _ _ _, ?_⟩
    refine rowOf' (t := 50) (cs := #[.int .i64 0, .int .i64 0]) ?_ 2 1 _ rfl rfl (by decide)
    exact (Blk.newAt (by simp)).kept (below_alloc _)
theorem vdOne (d e r : Value) : VdP [⟨oneK, d, e, r⟩] := by
  refine ⟨(show 1 ≤ 128 by decide), fun x hx => ?_⟩
  simp only [List.mem_cons, List.not_mem_nil, or_false] at hx
  subst hx
  refine ⟨fun i h => by simp [oneK] at h, ?_⟩
  rw [if_pos (show noS ⟨oneK, d, e, r⟩ = true from rfl)]
  exact ⟨(show 1 ≤ oneK.rows.length ∧ oneK.rows.length ≤ 128 by decide), (show ∀ r ∈ oneK.rows, 0 ≤ r.tag ∧ r.tag < 2147483648 ∧ r.pl = 0 by decide)⟩
theorem ibOne (d e r : Value) : IB ⟨oneK, d, e, r⟩ := ⟨fun s hs => (by cases hs), fun s hs => (by cases hs), (show ∀ r ∈ oneK.rows, r.tag ≤ 9223372036854775807 by decide)⟩
theorem validOne (w : World) (b : Nat) (d e r : Value) (h : PgR w (.slice (some ⟨b, 0, none⟩) 1 1) [⟨oneK, d, e, r⟩]) : ∀ W0, Below w.heap.size w W0 → Calls Tryd.prog 10 #[.agg #[.slice (some ⟨b, 0, none⟩) 1 1]] W0 fun e w' => e = .returned (.bool true) ∧ Below W0.heap.size W0 w' := fun W0 hW => (validB W0 [⟨oneK, d, e, r⟩] (some ⟨b, 0, none⟩) 1 (h.kept hW) (fun x hx => by simp only [List.mem_cons, List.not_mem_nil, or_false] at hx; subst hx; exact (show oneK.dec.length ≤ 140737488355328 ∧ oneK.enc.length ≤ 140737488355328 by decide)) (fun x hx => by simp only [List.mem_cons, List.not_mem_nil, or_false] at hx; subst hx; exact ibOne d e r)).mono (fun e' w' hq => by
  obtain ⟨q, h1, h2, h3⟩ := hq
  obtain rfl : q = true := h2.2 (vdOne d e r)
  exact ⟨h1, h3⟩)
theorem bytesOne (w : World) (b : Nat) (d e r : Value) (h : PgR w (.slice (some ⟨b, 0, none⟩) 1 1) [⟨oneK, d, e, r⟩]) : Calls Tryd.prog 5 #[.agg #[.slice (some ⟨b, 0, none⟩) 1 1]] w fun e w' => ∃ va cap, e = .returned (.tuple #[.slice va 8 cap, .int .i64 0]) ∧ Hid (W.Reads w' va 8 cap [67, 84, 1, 0, 0, 1, 0, 0]) ∧ Below w.heap.size w w' := by
  refine (bytesOk w [⟨oneK, d, e, r⟩] (some ⟨b, 0, none⟩) 1 h (fun x hx => by simp only [List.mem_cons, List.not_mem_nil, or_false] at hx; subst hx; exact bwOne) (show bkN oneK + 12 ≤ 140737488355328 by decide) (validOne w b d e r h)).mono ?_
  rintro e' w' ⟨v, rfl, ho, hb⟩
  rw [tiny_bytes] at ho
  obtain ⟨va, cap, rfl, hr⟩ := W.own_reads ho (by decide)
  exact ⟨va, cap, rfl, hid hr, hb⟩
theorem textOne (w : World) (b : Nat) (d e r : Value) (h : PgR w (.slice (some ⟨b, 0, none⟩) 1 1) [⟨oneK, d, e, r⟩]) : Calls Tryd.prog 9 #[.agg #[.slice (some ⟨b, 0, none⟩) 1 1]] w fun e w' => e = .returned (.tuple #[.string (strOfNums tinyT), .int .i64 0]) ∧ Below w.heap.size w w' := by
  have := textOk itS itS_ok w [⟨oneK, d, e, r⟩] (some ⟨b, 0, none⟩) 1 h (fun x hx => by simp only [List.mem_cons, List.not_mem_nil, or_false] at hx; subst hx; exact bwOne) smP (fun W0 n hn => itoaS W0 n hn) (fun i hi => by have : i < 1 := hi; exact ⟨by omega, by omega⟩) (fun x hx => by simp only [List.mem_cons, List.not_mem_nil, or_false] at hx; subst hx; exact bpOne) (show bkM oneK + 0 ≤ 140737488355328 by decide) (by simp) (validOne w b d e r h)
  rw [tiny_text] at this
  exact this
theorem awakeP (w : World) : Calls Tryd.prog 4 #[] w fun e w' => e = .returned (.bool true) ∧ Below w.heap.size w w' := by
  go_enter Tryd.func4, Tryd.ntmps4
  go_wp2_with fail
  refine (tinyP _).mono ?_
  rintro e w1 ⟨b1, r1, rfl, hp1, hb1⟩
  have HP1 := hid hp1
  clear hp1
  go_wp2_with fail
  refine (bytesOne _ _ _ _ _ HP1.out).mono ?_
  rintro e w2 ⟨va, cap, rfl, HR2, hb2⟩
  go_wp2_with fail
  refine (tinyP _).mono ?_
  rintro e w3 ⟨b3, r3, rfl, hp3, hb3⟩
  have HP3 := hid hp3
  clear hp3
  go_wp2_with fail
  refine (textOne _ _ _ _ _ HP3.out).mono ?_
  rintro e w4 ⟨rfl, hb4⟩
  have HB : Hid (Below w.heap.size w w4) := hid (bl_then (bl_then (bl_then hb1 hb2) hb3) hb4)
  have hcv := W.conv (W.reads_kept HR2.out (bl_then hb3 hb4))
  rw [show strOfNums [67, 84, 1, 0, 0, 1, 0, 0] = (⟨#[67, 84, 1, 0, 0, 1, 0, 0]⟩ : ByteArray) from rfl] at hcv
  rw [show strOfNums tinyT = (⟨#[98, 108, 111, 99, 107, 32, 48, 10, 32, 32, 114, 111, 119, 32, 48, 32, 48, 10]⟩ : ByteArray) from rfl]
  clear HP1 HP3 HR2 hb1 hb2 hb3 hb4
  go_wp2
  go_ret
  exact ⟨rfl, by have := HB.out; exact blBy⟩
set_option maxHeartbeats 1000000
theorem map_take_eq {xs ys : List BV} {j : Nat} (h1 : j < xs.length) (h2 : j < ys.length) : (xs.take (j + 1)).map BV.k = (ys.take (j + 1)).map BV.k ↔ ((xs.take j).map BV.k = (ys.take j).map BV.k ∧ xs[j].k = ys[j].k) := by
  rw [List.take_succ_eq_append_getElem h1, List.take_succ_eq_append_getElem h2, List.map_append, List.map_append]
  constructor
  · intro h
    have := List.append_inj h (by simp; omega)
    exact ⟨this.1, by simpa using this.2⟩
  · rintro ⟨h, g⟩
    rw [h]
    simp [g]
theorem map_ne_at {xs ys : List BV} {j : Nat} (h1 : j < xs.length) (h2 : j < ys.length) (h : xs[j].k ≠ ys[j].k) : xs.map BV.k ≠ ys.map BV.k := fun e => h (by
  have := congrArg (fun l => l[j]?) e
  simpa [h1, h2] using this)
theorem sameD (w : World) (xs ys : List BV) (xa ya : Option Addr) (xc yc : Nat) (hx : PgR w (.slice xa xs.length xc) xs) (hy : PgR w (.slice ya ys.length yc) ys) : Calls Tryd.prog 7 #[.agg #[.slice xa xs.length xc], .agg #[.slice ya ys.length yc]] w (EqA w (xs.map BV.k = ys.map BV.k)) := by
  obtain ⟨_, _, e, hn1⟩ := rowS_sl hx.row
  clear e
  obtain ⟨_, _, e, hn2⟩ := rowS_sl hy.row
  clear e
  have h631 : (xs.length : Int) ≤ 9223372036854775807 := by omega
  have h632 : (ys.length : Int) ≤ 9223372036854775807 := by omega
  have HX := hid hx
  have HY := hid hy
  clear hx hy
  by_cases hne : xs.length = ys.length
  case neg =>
    have q1 : ((xs.length : Int) != (ys.length : Int)) = true := by simp; omega
    have HF : Hid (¬ xs.map BV.k = ys.map BV.k) := hid fun e => hne (by simpa using congrArg List.length e)
    clear hne
    go_enter Tryd.func7, Tryd.ntmps7
    go_wp2
    go_ret
    exact EqA.no HF.out (by exact blBy)
  have q1 : ((xs.length : Int) != (ys.length : Int)) = false := by simp; omega
  replace hne := hid hne
  generalize en : xs.length = n at *
  generalize em : ys.length = m at *
  replace en := hid en
  replace em := hid em
  go_enter Tryd.func7, Tryd.ntmps7
  go_wp2
  have BX : Hid (Blk ((w.alloc (.cells #[.slice xa n xc] 24)).alloc (.cells #[.slice ya m yc] 24)) w.heap.size 24 #[.slice xa n xc]) := hid ((Blk.new _ _ _).kept (below_alloc _))
  have BY : Hid (Blk ((w.alloc (.cells #[.slice xa n xc] 24)).alloc (.cells #[.slice ya m yc] 24)) (w.heap.size + 1) 24 #[.slice ya m yc]) := hid (Blk.newAt (by simp))
  have HB : Hid (Below w.heap.size w ((w.alloc (.cells #[.slice xa n xc] 24)).alloc (.cells #[.slice ya m yc] 24))) := hid (by exact blBy)
  generalize (w.alloc (.cells #[.slice xa n xc] 24)).alloc (.cells #[.slice ya m yc] 24) = W at *
  replace HX := hid (HX.out.kept HB.out)
  replace HY := hid (HY.out.kept HB.out)
  go_loopw [5] (fun r wr => ∃ j : Nat, r = .int .i64 j ∧ j ≤ n ∧ Hid ((xs.take j).map BV.k = (ys.take j).map BV.k) ∧ Hid (Below W.heap.size W wr)) (fun r wr => n - numAt wr r)
  case atStart => exact ⟨0, rfl, by omega, hid (by simp), hid (Below.refl _ _)⟩
  case round =>
    obtain ⟨j, rfl, hj, HS, hb⟩ := hrel
    have e0 := (BX.out.kept hb.out).cell 0 _ rfl
    have e1 := (BY.out.kept hb.out).cell 0 _ rfl
    simp only [List.getElem_toArray, List.getElem_cons_succ, List.getElem_cons_zero] at e0 e1
    have z0 := (BX.out.kept hb.out).lt
    have z1 := (BY.out.kept hb.out).lt
    by_cases hlt : j < n
    · have j1 : (j : Int) < (n : Int) := by omega
      have j2 : (j : Int) < (m : Int) := by have := hne.out; omega
      have hx1 : j < xs.length := by have := en.out; omega
      have hy1 : j < ys.length := by have := em.out; have := hne.out; omega
      have HR := HX.out.row.kept hb.out
      have HQ := HY.out.row.kept hb.out
      obtain ⟨pb, po, epb, hc⟩ := rowAt (g := cBV) (fun _ => rfl) HR (i := j) (x := xs[j]) (by simp [hx1])
      obtain ⟨rb, ro, erb, hd⟩ := rowAt (g := cBV) (fun _ => rfl) HQ (i := j) (x := ys[j]) (by simp [hy1])
      clear HR HQ
      cases epb
      cases erb
      have c0 := hc 0 _ rfl
      have c1 := hc 1 _ rfl
      have c2 := hc 2 _ rfl
      have d0 := hd 0 _ rfl
      have d1 := hd 1 _ rfl
      have d2 := hd 2 _ rfl
      clear hc hd
      simp only [Nat.add_zero] at c0 d0
      have HST := hid (fun h => (map_take_eq hx1 hy1).2 ⟨HS.out, h⟩)
      have HNE := hid (map_ne_at hx1 hy1)
      have HEX := hid (HX.out.el _ (List.getElem_mem hx1))
      have HEY := hid (HY.out.el _ (List.getElem_mem hy1))
      generalize xs[j] = X at *
      generalize ys[j] = Y at *
      obtain ⟨A, xd, xe, xr⟩ := X
      obtain ⟨B, yd, ye, yr⟩ := Y
      dsimp only at c0 c1 c2 d0 d1 d2 HEX HEY HST HNE
      obtain ⟨a1, k1, rfl, -⟩ := rowS_sl HEX.out.hd
      obtain ⟨a2, k2, rfl, -⟩ := rowS_sl HEX.out.he
      obtain ⟨a3, k3, rfl, -⟩ := rowS_sl HEX.out.hr
      obtain ⟨b1, l1, rfl, -⟩ := rowS_sl HEY.out.hd
      obtain ⟨b2, l2, rfl, -⟩ := rowS_sl HEY.out.he
      obtain ⟨b3, l3, rfl, -⟩ := rowS_sl HEY.out.hr
      have HC : Hid (∀ V, Below W.heap.size W V → Calls Tryd.prog 14 #[.agg #[.slice a1 A.dec.length k1, .slice a2 A.enc.length k2, .slice a3 A.rows.length k3], .agg #[.slice b1 B.dec.length l1, .slice b2 B.enc.length l2, .slice b3 B.rows.length l3]] V (EqA V (A = B))) := hid fun V hV => sameBlockD V A B a1 a2 a3 b1 b2 b3 k1 k2 k3 l1 l2 l3 (HEX.out.kept hV) (HEY.out.kept hV)
      clear HEX HEY HX HY BX BY
      generalize A.dec.length = n1 at *
      generalize A.enc.length = n2 at *
      generalize A.rows.length = n3 at *
      generalize B.dec.length = m1 at *
      generalize B.enc.length = m2 at *
      generalize B.rows.length = m3 at *
      have hpb : pb < wr.heap.size := World.block_lt_of_cell? _ _ c0
      have hrb : rb < wr.heap.size := World.block_lt_of_cell? _ _ d0
      go_upto_region 6 with fail
      go_region_held3 (fun V => V.cell? ⟨w.heap.size, 0, none⟩ = some (.slice (some ⟨pb, po, none⟩) n xc) ∧ V.cell? ⟨w.heap.size + 1, 0, none⟩ = some (.slice (some ⟨rb, ro, none⟩) m yc) ∧ V.cell? ⟨pb, po + j * 3, none⟩ = some (.slice a1 n1 k1) ∧ V.cell? ⟨pb, po + j * 3 + 1, none⟩ = some (.slice a2 n2 k2) ∧ V.cell? ⟨pb, po + j * 3 + 2, none⟩ = some (.slice a3 n3 k3) ∧ V.cell? ⟨rb, ro + j * 3, none⟩ = some (.slice b1 m1 l1) ∧ V.cell? ⟨rb, ro + j * 3 + 1, none⟩ = some (.slice b2 m2 l2) ∧ V.cell? ⟨rb, ro + j * 3 + 2, none⟩ = some (.slice b3 m3 l3)) (first | exact ⟨e0, e1, c0, c1, c2, d0, d1, d2⟩) (first | (go_at_call 14; refine (HC.out _ (by have := hb.out; exact blBy)).mono ?_; rintro e w4 ⟨r, rfl, hr, hbx⟩; replace e0 := cell_below e0 (below_trans (by first | exact Below.refl _ _ | exact below_drew1 _ | exact below_drewN _ _) hbx); replace e1 := cell_below e1 (below_trans (by first | exact Below.refl _ _ | exact below_drew1 _ | exact below_drewN _ _) hbx); replace c0 := cell_below c0 (below_trans (by first | exact Below.refl _ _ | exact below_drew1 _ | exact below_drewN _ _) hbx); replace c1 := cell_below c1 (below_trans (by first | exact Below.refl _ _ | exact below_drew1 _ | exact below_drewN _ _) hbx); replace c2 := cell_below c2 (below_trans (by first | exact Below.refl _ _ | exact below_drew1 _ | exact below_drewN _ _) hbx); replace d0 := cell_below d0 (below_trans (by first | exact Below.refl _ _ | exact below_drew1 _ | exact below_drewN _ _) hbx); replace d1 := cell_below d1 (below_trans (by first | exact Below.refl _ _ | exact below_drew1 _ | exact below_drewN _ _) hbx); replace d2 := cell_below d2 (below_trans (by first | exact Below.refl _ _ | exact below_drew1 _ | exact below_drewN _ _) hbx); replace hb := hid (below_trans hb.out (below_trans (by first | exact Below.refl _ _ | exact below_drew1 _ | exact below_drewN _ _) hbx)); clear hbx))
      all_goals
        cases r with
        | true =>
          have hAB : A = B := hr.1 rfl
          have HS2 := hid (HST.out hAB)
          clear hAB hr HST HNE HC
          go_wp2
          exact ⟨⟨j + 1, by simp, by omega, HS2, hb⟩, by simp [numAt]; omega⟩
        | false =>
          have HF := hid (HNE.out (fun e => by have := hr.2 e; cases this))
          clear hr HST HNE HC
          go_wp2
          go_ret
          exact EqA.no HF.out (bl_then HB.out hb.out)
    · have j1 : ¬ (j : Int) < (n : Int) := by omega
      have HE : Hid (xs.map BV.k = ys.map BV.k) := hid (by
        have h := HS.out
        rw [List.take_of_length_le (by have := en.out; omega), List.take_of_length_le (by have := em.out; have := hne.out; omega)] at h
        exact h)
      go_wp2
      go_ret
      exact EqA.yes HE.out (bl_then HB.out hb.out)
section
variable {P : Program} {ops : Array Oper} {Q : Exit → Act → World → Prop} {md : Region.Mode} {S : Array Bool → World → Prop}
/-- Whatever order is picked from here on; S holds behind each operation, of what has come up by then. -/
def wpAnyL (P : Program) (md : Region.Mode) (ops : Array Oper) (Q : Exit → Act → World → Prop) (S : Array Bool → World → Prop) : Nat → Array Bool → Act → World → Prop
  | 0, l, a, w => Region.ready md ops l = [] ∧ Q .normal a w
  | n + 1, l, a, w => (Region.ready md ops l = [] → Q .normal a w) ∧ ∀ i ∈ Region.ready md ops l, wpOp P ops Q i (fun a' w' => S (l.setIfInBounds i true) w' ∧ wpAnyL P md ops Q S n (l.setIfInBounds i true) a' w') a w
theorem wpAny_of_L : ∀ (n : Nat) (l : Array Bool) (a : Act) (w : World), wpAnyL P md ops Q S n l a w → wpAny P md ops Q n l a w
  | 0, _, _, _, h => h
  | n + 1, _, _, _, h => ⟨h.1, fun i hi => wpOp_mono (fun a' w' g => wpAny_of_L n _ a' w' g.2) (h.2 i hi)⟩
theorem wpAnyL_first {T : World → Prop} {R : Array Bool → Prop} {i : Nat} {oi : Oper} {v : Value} (hi : ops[i]? = some oi) (hsel : ∀ (j : Nat) (o : Oper) cs b, ops[j]? = some o → o.op ≠ .select cs b)
    (hQ : ∀ c a w, Q (.panic c) (a.put oi.dst v) w → Q (.panic c) a w) (hSi : ∀ l w, S (l.setIfInBounds i true) w → S l w) (hST : ∀ l w, R l → S l w → T w)
    (hR : ∀ j l, j ≠ i → i ∈ Region.ready md ops l → j ∈ Region.ready md ops l → R l → R (l.setIfInBounds j true)) :
    ∀ (n : Nat) (l : Array Bool) (a : Act) (w : World),
      (∀ j oj, ops[j]? = some oj → j ≠ i → l.getD j true = false → (∀ e ∈ oj.after, Region.binds md e = true → e.on ≠ i) → oi.apart ops oj = true) →
      i ∈ Region.ready md ops l → R l → YieldsIf P ops T oi v a → S l w → S (l.setIfInBounds i true) w →
      wpAnyL P md ops Q S n (l.setIfInBounds i true) (a.put oi.dst v) w → wpAnyL P md ops Q S (n + 1) l a w := by
  intro n
  induction n with
  | zero =>
    intro l a w _ hr hRl hy hS hS2 H
    refine ⟨fun h => (by rw [h] at hr; cases hr), fun j hj => ?_⟩
    by_cases hji : j = i
    · subst hji
      exact hy.wpOp hi (hST l w hRl hS) ⟨hS2, H⟩
    · have := ready_mono hj hji
      rw [H.1] at this
      cases this
  | succ n ih =>
    intro l a w hfree hr hRl hy hS hS2 H
    refine ⟨fun h => (by rw [h] at hr; cases hr), fun j hj => ?_⟩
    by_cases hji : j = i
    · subst hji
      exact hy.wpOp hi (hST l w hRl hS) ⟨hS2, H⟩
    · have h1 := H.2 j (ready_mono hj hji)
      obtain ⟨hjun, oj, hoj, hall⟩ := mem_ready.1 hj
      have hnot : ∀ e ∈ oj.after, Region.binds md e = true → e.on ≠ i := fun e he hb heq => by
        have g1 := hall e he hb
        have g0 := (mem_ready.1 hr).1
        rw [heq] at g1
        rcases Nat.lt_or_ge i l.size with h' | h'
        · simp [h'] at g0 g1
          rw [g0] at g1
          cases g1
        · simp [Array.getElem?_eq_none h'] at g1
      have h2 := wpOp_putIf hoj (hfree j oj hoj hji hjun hnot) (fun cs b => hsel i oi cs b hi) (fun cs b => hsel j oj cs b hoj) hQ hy h1
      have hfree' : ∀ k ok, ops[k]? = some ok → k ≠ i → (l.setIfInBounds j true).getD k true = false → (∀ e ∈ ok.after, Region.binds md e = true → e.on ≠ i) → oi.apart ops ok = true := fun k ok hk hki hun hno => by
        refine hfree k ok hk hki ?_ hno
        by_cases hjk : j = k
        · subst hjk
          exact hjun
        · rw [getD_set_ne true hjk] at hun
          exact hun
      refine wpOp_mono (fun a' w' h3 => ?_) h2
      have e : (l.setIfInBounds i true).setIfInBounds j true = (l.setIfInBounds j true).setIfInBounds i true := by rw [Array.setIfInBounds_comm _ _ (Ne.symm hji)]
      rw [e] at h3
      have s2 := hSi _ _ h3.2.1
      exact ⟨s2, ih (l.setIfInBounds j true) a' w' hfree' (ready_mono hr (Ne.symm hji)) (hR j l hji hr hj hRl) h3.1 s2 h3.2.1 h3.2.2⟩
/-- S1 is asked until the operation k has come up. -/
def SL (S0 S1 : World → Prop) (k : Nat) (l : Array Bool) (w : World) : Prop := S0 w ∧ (l.getD k true = false → S1 w)
variable {S0 S1 : World → Prop} {k : Nat}
theorem SL.of {l : Array Bool} {w : World} (h0 : S0 w) (h1 : S1 w) : SL S0 S1 k l w := ⟨h0, fun _ => h1⟩
theorem SL.late {l : Array Bool} {w : World} (h0 : S0 w) (h1 : l.getD k true = true) : SL S0 S1 k l w := ⟨h0, fun h => by rw [h1] at h; cases h⟩
theorem SL.back {i : Nat} (h : i ≠ k) (l : Array Bool) (w : World) : SL S0 S1 k (l.setIfInBounds i true) w ↔ SL S0 S1 k l w := by
  unfold SL
  rw [getD_set_ne true h]
/-- Taken first: it yields wherever S0 holds. -/
theorem takeL0 (i : Nat) {oi : Oper} {v : Value} {n : Nat} {l : Array Bool} {a : Act} {w : World} (hi : ops[i]? = some oi) (hs : Region.noSelect ops = true) (hf : Region.free md ops l i = true) (hr : (Region.ready md ops l).contains i = true)
    (hQ : ∀ c a w, Q (.panic c) (a.put oi.dst v) w → Q (.panic c) a w) (hik : (i != k) = true) (hy : YieldsIf P ops S0 oi v a) (hS : SL S0 S1 k l w)
    (h : SL S0 S1 k (l.setIfInBounds i true) w → wpAnyL P md ops Q (SL S0 S1 k) n (l.setIfInBounds i true) (a.put oi.dst v) w) : wpAnyL P md ops Q (SL S0 S1 k) (n + 1) l a w := by
  have hk : i ≠ k := by simpa using hik
  have s2 := (SL.back (S0 := S0) (S1 := S1) hk l w).2 hS
  exact wpAnyL_first (T := S0) (R := fun _ => True) hi (Region.noSelect_spec hs) hQ (fun l w => (SL.back hk l w).1) (fun _ _ _ h => h.1) (fun _ _ _ _ _ _ => trivial) n l a w (Region.free_spec hi hf) (by simpa using hr) trivial hy hS s2 (h s2)
/-- Taken first: it yields wherever S0 and S1 hold; the operation k waits for it. -/
theorem takeL1 (i : Nat) {oi ok : Oper} {v : Value} {n : Nat} {l : Array Bool} {a : Act} {w : World} (hi : ops[i]? = some oi) (hk : ops[k]? = some ok) (hke : ok.after.any (fun e => Region.binds md e && e.on == i) = true) (hl : l.getD k true = false) (hs : Region.noSelect ops = true) (hf : Region.free md ops l i = true) (hr : (Region.ready md ops l).contains i = true)
    (hQ : ∀ c a w, Q (.panic c) (a.put oi.dst v) w → Q (.panic c) a w) (hik : (i != k) = true) (hy : YieldsIf P ops (fun w => S0 w ∧ S1 w) oi v a) (hS : SL S0 S1 k l w)
    (h : SL S0 S1 k (l.setIfInBounds i true) w → wpAnyL P md ops Q (SL S0 S1 k) n (l.setIfInBounds i true) (a.put oi.dst v) w) : wpAnyL P md ops Q (SL S0 S1 k) (n + 1) l a w := by
  have hk' : i ≠ k := by simpa using hik
  have s2 := (SL.back (S0 := S0) (S1 := S1) hk' l w).2 hS
  refine wpAnyL_first (T := fun w => S0 w ∧ S1 w) (R := fun l => l.getD k true = false) hi (Region.noSelect_spec hs) hQ (fun l w => (SL.back hk' l w).1) (fun _ _ g h => ⟨h.1, h.2 g⟩) ?_ n l a w (Region.free_spec hi hf) (by simpa using hr) hl hy hS s2 (h s2)
  intro j l hji hri hrj hRl
  by_cases hjk : j = k
  · subst hjk
    obtain ⟨e, he, hb⟩ := Array.any_eq_true'.1 hke
    simp only [Bool.and_eq_true, beq_iff_eq] at hb
    obtain ⟨-, o, ho, hall⟩ := mem_ready.1 hrj
    rw [hk] at ho
    cases ho
    have g1 := hall e he hb.1
    rw [hb.2] at g1
    have g0 := (mem_ready.1 hri).1
    rcases Nat.lt_or_ge i l.size with h' | h'
    · simp [h'] at g0 g1
      rw [g0] at g1
      cases g1
    · simp [Array.getElem?_eq_none h'] at g1
  · rw [getD_set_ne true hjk]
    exact hRl
def AllReadyL (P : Program) (md : Region.Mode) (ops : Array Oper) (Q : Exit → Act → World → Prop) (S : Array Bool → World → Prop) (n : Nat) (l : Array Bool) (a : Act) (w : World) (rs : List Nat) : Prop :=
  ∀ i ∈ rs, wpOp P ops Q i (fun a' w' => S (l.setIfInBounds i true) w' ∧ wpAnyL P md ops Q S n (l.setIfInBounds i true) a' w') a w
theorem AllReadyL.nil {n : Nat} {l : Array Bool} {a : Act} {w : World} : AllReadyL P md ops Q S n l a w [] := fun _ h => by cases h
theorem AllReadyL.cons {n : Nat} {l : Array Bool} {a : Act} {w : World} {i : Nat} {o : Oper} {rs : List Nat} (ho : ops[i]? = some o)
    (h : ∀ K' : Act → World → Prop, Shut (∀ a w, S (l.setIfInBounds i true) w → (S (l.setIfInBounds i true) w → wpAnyL P md ops Q S n (l.setIfInBounds i true) a w) → K' a w) → if Region.wanted o (yielded ops a.tmps) = true then Oper.wp P o a w K' Q else K' (a.put o.dst undef) w)
    (hs : AllReadyL P md ops Q S n l a w rs) : AllReadyL P md ops Q S n l a w (i :: rs) := fun j hj => by
  rcases List.mem_cons.1 hj with rfl | hj
  · exact wpOp_step ho (fun K' hK => h K' (fun a w hS hW => hK a w ⟨hS, hW hS⟩))
  · exact hs j hj
theorem wpAnyL_ready {rs : List Nat} {n : Nat} {l : Array Bool} {a : Act} {w : World} (hr : Region.ready md ops l = rs) (hne : rs ≠ []) (h : AllReadyL P md ops Q S n l a w rs) : wpAnyL P md ops Q S (n + 1) l a w := ⟨fun h0 => absurd (hr ▸ h0) hne, hr ▸ h⟩
theorem wpAnyL_done {l : Array Bool} {a : Act} {w : World} (hr : Region.ready md ops l = []) (h : Q .normal a w) : ∀ n, wpAnyL P md ops Q S n l a w
  | 0 => ⟨hr, h⟩
  | _ + 1 => ⟨fun _ => h, by rw [hr]; simp⟩
theorem wp_regionL {id : Nat} {a : Act} {w : World} (hm : P.follows .mixedOrders = true) (hS : S (Array.replicate ops.size false) w.drew) (h : S (Array.replicate ops.size false) w.drew → wpAnyL P .any ops Q S ops.size (Array.replicate ops.size false) a w.drew) : (Code.region id ops true).wp P Q a w := wp_region_any hm (wpAny_of_L _ _ _ _ (h hS))
end
end Go.Proofs.YtpndejibjiojbaaDoor
