/-
  Masks: what is kept is kept again; all fields' names.
  Masks: what is left is typed; the parts, merged, are the whole.
  Masks: sizes; the names of fields are ways.
  merge: the paths of a message: what they name.
  merge: Paths.
  Equal: what the program answers, at every depth.
  Equal: what the document answers.
  Equal: what the document answers, at every depth.
  The examples' numbers and messages; what merged says.
-/
import Derived.Test.YtkifjpaoncjokaaGreatDoorCIL
import Derived.Test.YtkifjpaoncjokaaGreatDoorCGN
import Derived.Test.YtkifjpaoncjokaaGreatDoorIX
import Derived.Test.YtkifjpaoncjokaaGreatDoorCGP
import Derived.Test.YtkifjpaoncjokaaGreatDoorCAA
import Derived.Deep.RegionWith
import Derived.BigQuiet
import Derived.Test.YtkifjpaoncjokaaGreatDoorCTY
namespace Go.Proofs.YtkifjpaoncjokaaGreatDoor
open Go.RowKit
set_option maxRecDepth 1000000
set_option linter.unusedVariables false
set_option linter.unusedSimpArgs false
set_option maxHeartbeats 600000
theorem nm_no46 {xs : List Int} (h : nmB xs = true) : ∀ c ∈ xs, c ≠ 46 := by
  unfold nmB at h
  rw [Bool.and_eq_true] at h
  have key : ∀ (f i : Nat), nmA xs f i = true → ∀ j, i ≤ j → j < i + f → bt xs j ≠ 46 := by
    intro f
    induction f with
    | zero => intro i _ j h1 h2; omega
    | succ f ih =>
      intro i hi j h1 h2
      rw [nmA, Bool.and_eq_true] at hi
      by_cases e : j = i
      · subst e
        intro q
        rw [q] at hi
        have := hi.1
        revert this
        cases hj : decide (j ≠ 0) <;> decide
      · exact ih (i + 1) hi.2 j (by omega) (by omega)
  intro c hc
  obtain ⟨i, hi, rfl⟩ := List.mem_iff_getElem.1 hc
  have := key _ 0 h.2 i (Nat.zero_le _) (by omega)
  unfold bt at this
  simpa [hi] using this
theorem good_nms {l : List TV} (hg : goodB l = true) {x : TV} (hx : x ∈ l) : (∀ f ∈ x.t.fs, nmB f.name = true) ∧ x.t.fs.Pairwise (fun f g => f.name ≠ g.name) := by
  obtain ⟨k, hk, rfl⟩ := List.mem_iff_getElem.1 hx
  have h := good_at hg hk
  unfold stepB typB at h
  cases he : l[k].t.enum with
  | false =>
    rw [he] at h
    simp only [Bool.and_eq_true, Bool.false_eq_true, if_false] at h
    have h2 := h.2.2.2
    unfold msgB at h2
    simp only [Bool.and_eq_true] at h2
    have h3 := h2.2.2.2.2.2.2
    unfold nmsB at h3
    rw [Bool.and_eq_true] at h3
    have h4 := List.all_eq_true.1 h3.1
    refine ⟨fun f hf => h4 _ (List.mem_append_right _ (List.mem_map_of_mem hf)), ?_⟩
    have h5 := h3.2
    rw [dfB_iff _ (fun z hz => by obtain ⟨y, _, rfl⟩ := List.mem_map.1 hz; trivial), List.nodup_iff_pairwise_ne, List.pairwise_map, List.pairwise_append] at h5
    have h6 := h5.2.1
    rw [List.pairwise_map] at h6
    exact h6.imp (fun hne e => hne (by rw [e]))
  | true =>
    rw [he] at h
    simp only [Bool.and_eq_true, if_true, decide_eq_true_eq] at h
    have h3 : l[k].t.fs.length = 0 := by have := h.2.2.2.1; omega
    rw [List.eq_nil_of_length_eq_zero h3]
    exact ⟨fun f hf => (by cases hf), List.Pairwise.nil⟩
set_option maxHeartbeats 1000000
def HasM (d : Nat) (m : CM) : Prop := ∃ (w : World) (Z : Nat → Prop) (cs : List Value), MsgE w Z d cs m
theorem HasM.no {m : CM} (h : HasM 0 m) : False := by
  obtain ⟨w, Z, cs, h⟩ := h
  exact h
theorem HasM.sub {d : Nat} {m : CM} (h : HasM (d + 1) m) {y : CF CM} (hy : y ∈ m.fs) {v : CV CM} (hv : v ∈ y.vs) {z : CM} (hz : z ∈ v.ms) : HasM d z := by
  obtain ⟨w, Z, cs, h⟩ := h
  obtain ⟨ds, g⟩ := msg_within h hy hv hz
  exact ⟨w, Z, ds, g⟩
/-- The paths of a message, each with its way. -/
def pw1 (P : List FT → CM → List (List Int × List Int)) (l : List TV) (fs : List FT) (x : CF CM) : List (List Int × List Int) :=
  if goP fs x then (P (fsAt l (ownF fs x.num).ref) (wthM x)).map (fun q => ((ownF fs x.num).name ++ 46 :: q.1, x.num :: q.2)) else [((ownF fs x.num).name, [x.num])]
def pwM (l : List TV) : Nat → List FT → CM → List (List Int × List Int)
  | 0, _, _ => []
  | d + 1, fs, m => m.fs.flatMap (pw1 (pwM l d) l fs)
theorem kept_own {l : List TV} {d : Nat} {x : TV} {m : CM} (hk : keptB l (d + 1) x m = true) {y : CF CM} (hy : y ∈ m.fs) : ownF x.t.fs y.num ∈ x.t.fs ∧ (ownF x.t.fs y.num).num = y.num := ownF_hasF (kept_ms hk hy).1
theorem kept_go {l : List TV} (hg : goodB l = true) {d : Nat} {x : TV} (hx : x ∈ l) {m : CM} (hk : keptB l (d + 1) x m = true) (hE : HasM (d + 1) m) {y : CF CM} (hy : y ∈ m.fs) (hw : isWyB (ownF x.t.fs y.num) = true) : ∃ t ∈ l, l[(ownF x.t.fs y.num).ref.toNat]? = some t ∧ fsAt l (ownF x.t.fs y.num).ref = t.t.fs ∧ keptB l d t (wthM y) = true ∧ HasM d (wthM y) ∧ ∃ v z, y.vs = [v] ∧ v.ms = [z] := by
  obtain ⟨h1, h2⟩ := kept_own hk hy
  obtain ⟨v, z, t, e1, e2, e3, e4, e5⟩ := kept_wayM hg hx hk h1 hw hy h2.symm
  have ew : wthM y = z := by unfold wthM; rw [e1]; dsimp only; rw [e2]
  refine ⟨t, e4, e3, by unfold fsAt; rw [e3]; rfl, by rw [ew]; exact e5, ?_, v, z, e1, e2⟩
  rw [ew]
  exact hE.sub hy (v := v) (by rw [e1]; simp) (by rw [e2]; simp)
theorem goP_go {fs : List FT} {y : CF CM} (h : goP fs y = true) : isWyB (ownF fs y.num) = true ∧ 0 < (wthM y).fs.length := by
  unfold goP at h
  simpa using h
theorem ctD_app : ∀ a b : List Int, ctD (a ++ b) = ctD a + ctD b
  | [], b => by simp [ctD]
  | c :: a, b => by
    rw [List.cons_append, ctD, ctD, ctD_app a b]
    split <;> omega
theorem ctD_no : ∀ a : List Int, (∀ c ∈ a, c ≠ 46) → ctD a = 0
  | [], _ => rfl
  | c :: a, h => by rw [ctD, if_neg (h c (by simp)), ctD_no a (fun x hx => h x (by simp [hx]))]
theorem pw_bd {l : List TV} (hg : goodB l = true) (hok : ∀ x ∈ l, OkV x) (hnm : ∀ x ∈ l, ∀ f ∈ x.t.fs, f.name.length ≤ 4000000) : ∀ (d : Nat) (x : TV) (m : CM), x ∈ l → keptB l d x m = true → HasM d m → ∀ q ∈ pwM l d x.t.fs m, (∀ c ∈ q.1, 0 ≤ c ∧ c ≤ 255) ∧ q.1.length ≤ d * 4000001 ∧ ctD q.1 ≤ d
  | 0, _, _, _, _, hE, _, _ => absurd hE HasM.no
  | d + 1, x, m, hx, hk, hE, q, hq => by
    rw [pwM] at hq
    obtain ⟨y, hy, hq⟩ := List.mem_flatMap.1 hq
    obtain ⟨o1, o2⟩ := kept_own hk hy
    have hT := (hok x hx).ok.fs _ o1
    have hL := hnm x hx _ o1
    have hD := ctD_no _ (nm_no46 ((good_nms hg hx).1 _ o1))
    unfold pw1 at hq
    split at hq
    · rename_i hgo
      obtain ⟨w1, w2⟩ := goP_go hgo
      obtain ⟨t, ht, et, ef, kt, hT2, -⟩ := kept_go hg hx hk hE hy w1
      obtain ⟨r, hr, rfl⟩ := List.mem_map.1 hq
      rw [ef] at hr
      obtain ⟨i1, i2, i3⟩ := pw_bd hg hok hnm d t (wthM y) ht kt hT2 r hr
      dsimp only
      refine ⟨fun c hc => ?_, by simp; omega, by rw [ctD_app, ctD, if_pos rfl, hD]; omega⟩
      rcases List.mem_append.1 hc with hc | hc
      · exact hT.1 c hc
      · rcases List.mem_cons.1 hc with rfl | hc
        · omega
        · exact i1 c hc
    · rw [List.mem_singleton] at hq
      subst hq
      exact ⟨hT.1, by dsimp only; omega, by dsimp only; omega⟩
theorem pt_ok {l : List TV} (hg : goodB l = true) (hok : ∀ x ∈ l, OkV x) (hnm : ∀ x ∈ l, ∀ f ∈ x.t.fs, f.name.length ≤ 4000000) : ∀ (d : Nat) (x : TV) (m : CM), x ∈ l → keptB l d x m = true → HasM d m → PtOk l d x.t.fs m
  | 0, _, _, _, _, hE => absurd hE HasM.no
  | d + 1, x, m, hx, hk, hE => by
    rw [PtOk]
    intro y hy
    obtain ⟨o1, o2⟩ := kept_own hk hy
    refine ⟨⟨(hok x hx).ok.fs _ o1, hnm x hx _ o1⟩, fun hw => ?_⟩
    obtain ⟨t, ht, et, ef, kt, hT, v, z, ev, ez⟩ := kept_go hg hx hk hE hy hw
    obtain ⟨r0, r1⟩ := good_refs hg hx o1
    refine ⟨⟨v, [], z, [], ev, ez⟩, (ownF x.t.fs y.num).ref.toNat, r1, by omega, ?_⟩
    have e2 : l[(ownF x.t.fs y.num).ref.toNat] = t := by
      rw [List.getElem?_eq_getElem r1] at et
      exact Option.some.inj et
    rw [e2]
    exact pt_ok hg hok hnm d t (wthM y) ht kt hT
theorem listT (l : List TV) (hok : ∀ x ∈ l, OkV x) (hg : goodB l = true) (W0 : World) (p : Nat) (ta : Option Addr) (tc : Nat) (hT : TbR W0 (.slice ta l.length tc) l) (hp : W0.heap.size ≤ p) : ∀ d : Nat, LsC l W0 p (.slice ta l.length tc) d
  | 0 => fun w k hk cs m ah ps av pv h => absurd h (fun h => h)
  | d + 1 => listStep l hok hg W0 p ta tc hT hp d (listT l hok hg W0 p ta tc hT hp d)
/-- What Paths answers. -/
def PthA (w : World) (ps : List (List Int)) (n : Int) (e : Ending) (w' : World) : Prop := ∃ (pa : Option Addr) (pc : Nat), e = .returned (.tuple #[.slice pa ps.length pc, .int .i64 n]) ∧ w'.ownsRow w.heap.size 9 1 (.slice pa ps.length pc) ps.length (ps.map (fun s => Value.string (strOfNums s))) ∧ Below w.heap.size w w'
theorem PthA.no {w w' : World} {n : Int} (h : Below w.heap.size w w') : PthA w [] n (.returned (.tuple #[.slice none 0 0, .int .i64 n])) w' := ⟨none, 0, rfl, World.ownsRow_nil _ _ _ _, h⟩
theorem PthA.yes {w w' : World} {ps : List (List Int)} {pv : Value} (ho : w'.ownsRow w.heap.size 9 1 pv ps.length (ps.map (fun s => Value.string (strOfNums s)))) (h : Below w.heap.size w w') : PthA w ps 0 (.returned (.tuple #[pv, .int .i64 0])) w' := by
  obtain ⟨a, c, rfl⟩ := own_shape ho
  exact ⟨a, c, rfl, ho, h⟩
theorem pathsT (w : World) (l : List TV) (ta : Option Addr) (tc : Nat) (h : TbR w (.slice ta l.length tc) l) (hk : ∀ x ∈ l, OkV x) (hnm : ∀ x ∈ l, ∀ f ∈ x.t.fs, f.name.length ≤ 4000000) (mx : Int) (hm0 : w.cell? ⟨0, 0, none⟩ = some (.int .i64 mx)) (k : Nat) (hkl : k < l.length) (hg : goodB l = true) (he : l[k].t.enum = false) (Z : Nat → Prop) (d : Nat) (cs : List Value) (m : CM) (hm : MsgE w Z (d + 1) cs m) (ka : keptB l (d + 1) l[k] m = true) (hn1 : (d + 1) * 4000001 ≤ 140737488355328) (hn2 : (ptM l (d + 1) l[k].t.fs [] m).length ≤ 4000000) : Calls Tryz.prog 17 #[.agg #[.slice ta l.length tc], .int .i64 (k : Int), .agg cs.toArray] w (PthA w (ptM l (d + 1) l[k].t.fs [] m) 0) := by
  have HPO : Hid (PtOk l (d + 1) l[k].t.fs m) := hid (pt_ok hg hk hnm (d + 1) l[k] m (List.getElem_mem hkl) ka ⟨w, Z, cs, hm⟩)
  obtain ⟨fa, fc, ua, uc, rfl, -⟩ := msg_openD hm
  have HMO : Hid (MsgE w (· < w.heap.size) (d + 1) [.slice fa m.fs.length fc, .slice ua m.us.length uc] m) := hid (MsgE.go (Keep.refl (fun _ => True) _) (fun _ _ => trivial) (fun b hb => hb.2) (d + 1) _ _ (MsgE.old (d + 1) _ _ hm))
  have HTA := hid fun W (hW : Below w.heap.size w W) q (hz : w.heap.size ≤ q) (hq : Blk W q 29 #[.slice fa m.fs.length fc, .slice ua m.us.length uc]) => tAtOk W l ta tc (h.kept hW) hk mx (cell_below hm0 hW) k hkl hg he (fun b => Z b ∨ w.heap.size ≤ b) (d + 1) [m] (some ⟨q, 0, none⟩) 1 (mgs1 (MsgE.go (keepT hW) (fun _ _ => trivial) (fun b h => Or.inl h) (d + 1) _ _ hm) (Or.inr hz) hq) (by simp [ka])
  have HLS := hid fun W (hW : Below w.heap.size w W) => listT l hk hg W W.heap.size ta tc (h.kept hW) (Nat.le_refl _) (d + 1) (W.alloc (.cells #[.slice ta l.length tc, .slice none 0 0, .slice none 0 0] 84)) k hkl [.slice fa m.fs.length fc, .slice ua m.us.length uc] m [] [] (.slice none 0 0) (.slice none 0 0) (MsgE.go (f := (· < w.heap.size)) (Keep.ofBelow (below_trans hW (below_alloc _))) (fun _ h => h) (fun b hb => Nat.lt_of_lt_of_le hb hW.size) (d + 1) _ _ HMO.out) HPO.out ⟨Blk.new _ _ _, World.ownsRow_nil _ _ _ _, World.ownsRow_nil _ _ _ _, below_alloc _⟩ (fun c hc => by cases hc) (by simpa using hn1) (by simpa using hn2)
  obtain ⟨a1, c1, a2, c2, a3, c3, a4, c4, e1, e2, e3, e4⟩ := shT_of (h.ty l[k] (List.getElem_mem hkl))
  have ec : cTV l[k] = [.string (strOfNums l[k].t.name), .bool l[k].t.enum, .slice a1 l[k].t.fs.length c1, .slice a2 l[k].t.os.length c2, .slice a3 l[k].t.ss.length c3, .slice a4 l[k].t.rs.length c4] := by unfold cTV; rw [e1, e2, e3, e4]
  rw [ec] at HTA HLS
  obtain ⟨P, HP⟩ : ∃ P, Hid (P = ptM l (d + 1) l[k].t.fs [] m) := ⟨_, hid rfl⟩
  rw [← HP.out] at HLS ⊢
  clear h hk hm0 hg he hm ka hnm hn1 hn2 e1 e2 e3 e4 ec HPO HP HMO
  generalize l[k] = x at *
  go_enter Tryz.func17, Tryz.ntmps17
  go_wp2_with fail
  refine (HTA.out _ (by exact blBy) _ ?_ (Blk.newAt (by simp))).mono ?_
  · omega
  rintro e w1 ⟨rfl, hbx⟩
  have BT : Hid (Blk w1 w.heap.size 24 #[.slice ta l.length tc]) := hid ((((Blk.new _ _ _).kept (below_alloc _)).kept (below_alloc _)).kept hbx)
  have BA : Hid (Blk w1 (w.heap.size + 1) 29 #[.slice fa m.fs.length fc, .slice ua m.us.length uc]) := hid (((Blk.newAt (by simp)).kept (below_alloc _)).kept hbx)
  have HB1 : Hid (Below w.heap.size w w1) := hid (bl_then (by exact blBy) hbx)
  clear hbx HTA
  have xt := BT.out.cellF
  have zt := BT.out.lt
  have xa := BA.out.cellF
  have za := BA.out.lt
  have HL := hid (HLS.out (w1.alloc (.cells #[.string (strOfNums x.t.name), .bool x.t.enum, .slice a1 x.t.fs.length c1, .slice a2 x.t.os.length c2, .slice a3 x.t.ss.length c3, .slice a4 x.t.rs.length c4] 63)) (bl_alloc HB1.out _))
  have HW : Hid (Below w.heap.size w (w1.alloc (.cells #[.string (strOfNums x.t.name), .bool x.t.enum, .slice a1 x.t.fs.length c1, .slice a2 x.t.os.length c2, .slice a3 x.t.ss.length c3, .slice a4 x.t.rs.length c4] 63))) := hid (bl_alloc HB1.out _)
  rw [show (w1.alloc (.cells #[.string (strOfNums x.t.name), .bool x.t.enum, .slice a1 x.t.fs.length c1, .slice a2 x.t.os.length c2, .slice a3 x.t.ss.length c3, .slice a4 x.t.rs.length c4] 63)).heap.size = w1.heap.size + 1 from by simp] at HL
  clear HLS
  go_wp2_with fail
  refine HL.out.mono ?_
  rintro e w2 ⟨rfl, av, pv, hS, hsz, -⟩
  have HO : Hid (w2.ownsRow w.heap.size 9 1 pv P.length (P.map (fun s => Value.string (strOfNums s)))) := hid (own_mono hS.op (by have := HB1.out.size; omega))
  have HB2 : Hid (Below w.heap.size w w2) := hid (HW.out.trans (hS.bel.mono HW.out.size))
  have BL := hid hS.blk
  clear hS hsz xt zt xa za HL
  have xl := BL.out.cellF
  have zl := BL.out.lt
  go_wp2
  exact bodyPost_ret (v := .tuple #[pv, .int .i64 0]) (by simp [results, Tryz.results17, go_sem]) rfl (PthA.yes HO.out (by have := HB2.out; exact blBy))
theorem CE.ext4 {x y : CE} (h1 : x.num = y.num) (h2 : x.kind = y.kind) (h3 : x.n = y.n) (h4 : x.b = y.b) : x = y := by
  cases x; cases y; simp_all
theorem CV.ext3 {x y : CV CM} (h1 : x.n = y.n) (h2 : x.b = y.b) (h3 : x.ms = y.ms) : x = y := by
  cases x; cases y; simp_all
theorem CF.ext3 {x y : CF CM} (h1 : x.num = y.num) (h2 : x.ks = y.ks) (h3 : x.vs = y.vs) : x = y := by
  cases x; cases y; simp_all
set_option maxHeartbeats 2000000
theorem bl_drewW (w : World) : Below w.heap.size w w.drew := below_drew1 w
theorem sameD (w : World) (Z Z2 : Nat → Prop) (cs ds : List Value) (x y : CE) (h1 : EntE w Z cs x) (h2 : EntE w Z2 ds y) : Calls Tryz.prog 59 #[.agg cs.toArray, .agg ds.toArray] w (EqR w (x = y)) := by
  obtain ⟨ka1, kc1, rfl, g1, -⟩ := ent_open h1
  obtain ⟨ka2, kc2, rfl, g2, -⟩ := ent_open h2
  have k1 := by_conv (g1.kept (by exact blBy : Below w.heap.size w ((w.alloc (.cells #[.int .i64 x.num, .int .i64 x.kind, .int .u64 x.n, .slice ka1 x.b.length kc1] 118)).alloc (.cells #[.int .i64 y.num, .int .i64 y.kind, .int .u64 y.n, .slice ka2 y.b.length kc2] 118))))
  have k2 := by_conv (g2.kept (by exact blBy : Below w.heap.size w ((w.alloc (.cells #[.int .i64 x.num, .int .i64 x.kind, .int .u64 x.n, .slice ka1 x.b.length kc1] 118)).alloc (.cells #[.int .i64 y.num, .int .i64 y.kind, .int .u64 y.n, .slice ka2 y.b.length kc2] 118))))
  have HS := str_eq (xs := x.b) (ys := y.b) (fun v hv => g1.2.1 v hv) (fun v hv => g2.2.1 v hv)
  clear g1 g2 h1 h2
  go_enter Tryz.func59, Tryz.ntmps59
  by_cases e1 : x.num = y.num
  case neg =>
    have kq : (x.num == y.num) = false := by simpa using e1
    have HX := hid e1
    clear e1
    go_wp2
    go_ret
    exact EqR.no (fun e => HX.out (by rw [e])) (by exact blBy)
  have kqe1 : (x.num == y.num) = true := by simpa using e1
  have He1 := hid e1
  clear e1
  by_cases e2 : x.kind = y.kind
  case neg =>
    have kq : (x.kind == y.kind) = false := by simpa using e2
    have HX := hid e2
    clear e2
    go_wp2
    go_ret
    exact EqR.no (fun e => HX.out (by rw [e])) (by exact blBy)
  have kqe2 : (x.kind == y.kind) = true := by simpa using e2
  have He2 := hid e2
  clear e2
  by_cases e3 : x.n = y.n
  case neg =>
    have kq : (x.n == y.n) = false := by simpa using e3
    have HX := hid e3
    clear e3
    go_wp2
    go_ret
    exact EqR.no (fun e => HX.out (by rw [e])) (by exact blBy)
  have kqe3 : (x.n == y.n) = true := by simpa using e3
  have He3 := hid e3
  clear e3
  by_cases e4 : x.b = y.b
  · rw [decide_eq_true e4] at HS
    have He4 := hid e4
    clear e4
    go_wp2
    go_ret
    exact EqR.yes (CE.ext4 He1.out He2.out He3.out He4.out) (by exact blBy)
  · rw [decide_eq_false e4] at HS
    have HX := hid e4
    clear e4
    go_wp2
    go_ret
    exact EqR.no (fun e => HX.out (by rw [e])) (by exact blBy)
theorem listD (w : World) (Z Z2 : Nat → Prop) (xs ys : List CE) (a1 a2 : Option Addr) (c1 c2 : Nat) (h1 : EnsR w Z (.slice a1 xs.length c1) xs) (h2 : EnsR w Z2 (.slice a2 ys.length c2) ys) : Calls Tryz.prog 36 #[.slice a1 xs.length c1, .slice a2 ys.length c2] w (EqR w (xs = ys)) := by
  obtain ⟨_, _, e1, l1⟩ := RowM.sl h1
  clear e1
  have m1 : (xs.length : Int) ≤ 9223372036854775807 := by omega
  have H1 := hid h1
  have H2 := hid h2
  clear h1 h2
  by_cases hl : xs.length = ys.length
  · have HL := hid hl
    rw [← hl] at H2
    rw [← hl]
    clear hl
    go_enter Tryz.func36, Tryz.ntmps36
    go_wp2
    go_loopw [5] (fun r wr => ∃ j : Nat, r = .int .i64 j ∧ j ≤ xs.length ∧ Hid (xs.take j = ys.take j) ∧ Hid (Below w.heap.size w wr)) (fun r wr => xs.length - numAt wr r)
    case atStart => exact ⟨0, rfl, by omega, hid rfl, hid (Below.refl _ _)⟩
    case round =>
      obtain ⟨j, rfl, hj, hT, hb⟩ := hrel
      by_cases hlt : j < xs.length
      · have k2 : (j : Int) < (xs.length : Int) := by omega
        have hlt2 : j < ys.length := by have := HL.out; omega
        obtain ⟨b1, o1, ka1, kc1, rfl, -, hb1, c10, c11, c12, c13, he1⟩ := ens_at (H1.out.kept hb.out) hlt
        obtain ⟨b2, o2, ka2, kc2, rfl, -, hb2, c20, c21, c22, c23, he2⟩ := ens_at (H2.out.kept hb.out) hlt2
        have HE1 := hid he1
        have HE2 := hid he2
        have HN := hid (fun h => take_next hlt hlt2 hT.out h)
        have HNO := hid (fun h => ne_at (xs := xs) (ys := ys) hlt hlt2 h)
        clear he1 he2
        generalize xs[j] = x at *
        generalize ys[j] = y at *
        go_wp2_with fail
        go_region_with (go_at_call 59; refine (sameD _ Z Z2 [.int .i64 x.num, .int .i64 x.kind, .int .u64 x.n, .slice ka1 x.b.length kc1] [.int .i64 y.num, .int .i64 y.kind, .int .u64 y.n, .slice ka2 y.b.length kc2] x y (HE1.out.kept (bl_drewW _)) (HE2.out.kept (bl_drewW _))).mono ?_; rintro e w1 ⟨r, rfl, hr, hbx⟩; replace hr := hid hr; replace hbx : Hid (Below w.heap.size w w1) := hid (bl_then (bl_drew hb.out) hbx))
        all_goals
          cases r with
          | true =>
            have HX : Hid (x = y) := hid (hr.out.1 rfl)
            clear hr
            go_wp2
            exact ⟨⟨j + 1, by simp, by omega, hid (HN.out HX.out), hbx⟩, by simp [numAt]; omega⟩
          | false =>
            have HX : Hid (¬ x = y) := hid (fun e => (by have := hr.out.2 e; cases this))
            clear hr
            go_wp2
            go_ret
            exact EqR.no (HNO.out HX.out) hbx.out
      · have k2 : ¬ (j : Int) < (xs.length : Int) := by omega
        go_wp2
        go_ret
        exact EqR.yes (take_all (by omega) (by have := HL.out; omega) hT.out) hb.out
  · have q0 : ((xs.length : Int) == (ys.length : Int)) = false := by simp; omega
    have HL := hid hl
    clear hl
    go_enter Tryz.func36, Tryz.ntmps36
    go_wp2
    go_ret
    exact EqR.no (fun q => HL.out (by rw [q])) (Below.refl _ _)
/-- The document's Equal at a depth. -/
def EqDAt (d : Nat) : Prop := ∀ (w : World) (Z Z2 : Nat → Prop) (cs ds : List Value) (m m' : CM), MsgE w Z d cs m → MsgE w Z2 d ds m' → Calls Tryz.prog 21 #[.agg cs.toArray, .agg ds.toArray] w (EqR w (m = m'))
theorem valsD (d : Nat) (HE : EqDAt d) (w : World) (Z Z2 : Nat → Prop) (xs ys : List (CV CM)) (a1 a2 : Option Addr) (c1 c2 : Nat) (h1 : VlsR w Z d (.slice a1 xs.length c1) xs) (h2 : VlsR w Z2 d (.slice a2 ys.length c2) ys) : Calls Tryz.prog 26 #[.slice a1 xs.length c1, .slice a2 ys.length c2] w (EqR w (xs = ys)) := by
  obtain ⟨_, _, e1, l1⟩ := RowM.sl h1
  clear e1
  have m1 : (xs.length : Int) ≤ 9223372036854775807 := by omega
  have H1 := hid h1
  have H2 := hid h2
  replace HE := hid HE
  clear h1 h2
  by_cases hl : xs.length = ys.length
  · have HL := hid hl
    rw [← hl] at H2
    rw [← hl]
    clear hl
    go_enter Tryz.func26, Tryz.ntmps26
    go_wp2
    go_loopw [5] (fun r wr => ∃ j : Nat, r = .int .i64 j ∧ j ≤ xs.length ∧ Hid (xs.take j = ys.take j) ∧ Hid (Below w.heap.size w wr)) (fun r wr => xs.length - numAt wr r)
    case atStart => exact ⟨0, rfl, by omega, hid rfl, hid (Below.refl _ _)⟩
    case round =>
      obtain ⟨j, rfl, hj, hT, hb⟩ := hrel
      by_cases hlt : j < xs.length
      · have k2 : (j : Int) < (xs.length : Int) := by omega
        have hlt2 : j < ys.length := by have := HL.out; omega
        obtain ⟨b1, o1, ka1, kc1, va1, vc1, rfl, -, hb1, c10, c11, c12, he1⟩ := vls_at (H1.out.kept hb.out) hlt
        obtain ⟨b2, o2, ka2, kc2, va2, vc2, rfl, -, hb2, c20, c21, c22, he2⟩ := vls_at (H2.out.kept hb.out) hlt2
        obtain ⟨_, _, _, _, e1, g1, q1, -, ml1, -⟩ := val_open he1
        simp only [List.cons.injEq, Value.slice.injEq, true_and, and_true] at e1
        obtain ⟨⟨rfl, rfl⟩, rfl, rfl⟩ := e1
        obtain ⟨_, _, _, _, e2, g2, q2, -, ml2, -⟩ := val_open he2
        simp only [List.cons.injEq, Value.slice.injEq, true_and, and_true] at e2
        obtain ⟨⟨rfl, rfl⟩, rfl, rfl⟩ := e2
        have Q1 := hid q1
        have Q2 := hid q2
        have HN := hid (fun h => take_next hlt hlt2 hT.out h)
        have HNO := hid (fun h => ne_at (xs := xs) (ys := ys) hlt hlt2 h)
        have HS := str_eq (xs := xs[j].b) (ys := ys[j].b) (fun v hv => g1.2.1 v hv) (fun v hv => g2.2.1 v hv)
        have k3 : ∀ z, (convert 36 9 (.slice ka1 xs[j].b.length kc1)).run Tryz.prog (wr.drewN z) = .ok (.string (strOfNums xs[j].b)) (wr.drewN z) := fun z => by_conv (g1.kept (below_drewN _ _))
        have k4 : ∀ z, (convert 36 9 (.slice ka2 ys[j].b.length kc2)).run Tryz.prog (wr.drewN z) = .ok (.string (strOfNums ys[j].b)) (wr.drewN z) := fun z => by_conv (g2.kept (below_drewN _ _))
        clear he1 he2 g1 g2 q1 q2
        generalize xs[j] = x at *
        generalize ys[j] = y at *
        have ml3 : (x.ms.length : Int) ≤ 9223372036854775807 := by omega
        by_cases e1 : x.n = y.n
        case neg =>
          have kq : (x.n == y.n) = false := by simpa using e1
          have kn : (x.n != y.n) = true := by simp [bne, kq]
          have HX : Hid (¬ x = y) := hid (fun e => e1 (by rw [e]))
          clear e1
          go_wp2
          go_quiet (fail)
          go_wp2
          go_ret
          exact EqR.no (HNO.out HX.out) (by have := hb.out; exact blBy)
        have kq1 : (x.n == y.n) = true := by simpa using e1
        have kn1 : (x.n != y.n) = false := by simp only [bne, kq1, Bool.not_true]
        have He1 := hid e1
        clear e1
        by_cases e2 : x.b = y.b
        case neg =>
          rw [decide_eq_false e2] at HS
          have ks : ((strOfNums x.b).toList != (strOfNums y.b).toList) = true := by simp only [bne, HS, Bool.not_false]
          have HX : Hid (¬ x = y) := hid (fun e => e2 (by rw [e]))
          clear e2
          go_wp2
          go_quiet (fail)
          go_wp2
          go_ret
          exact EqR.no (HNO.out HX.out) (by have := hb.out; exact blBy)
        rw [decide_eq_true e2] at HS
        have ks : ((strOfNums x.b).toList != (strOfNums y.b).toList) = false := by simp only [bne, HS, Bool.not_true]
        have He2 := hid e2
        clear e2
        by_cases e3 : x.ms.length = y.ms.length
        case neg =>
          have kq3 : ((x.ms.length : Int) == (y.ms.length : Int)) = false := by simp; omega
          have kn3 : ((x.ms.length : Int) != (y.ms.length : Int)) = true := by simp only [bne, kq3, Bool.not_false]
          have kn4 : (x.ms.length != y.ms.length) = true := by simpa using e3
          have HX : Hid (¬ x = y) := hid (fun e => e3 (by rw [e]))
          clear e3
          go_wp2
          go_quiet (fail)
          go_wp2
          go_ret
          exact EqR.no (HNO.out HX.out) (by have := hb.out; exact blBy)
        have He3 := hid e3
        rw [← e3] at c22 Q2
        clear e3 ml2
        go_wp2
        go_quiet (fail)
        replace hb : Hid (Below w.heap.size w (wr.drewN nq)) := hid (by have := hb.out; exact blBy)
        replace c12 := cell_below c12 (below_drewN wr nq)
        replace c22 := cell_below c22 (below_drewN wr nq)
        replace Q1 := hid (Q1.out.kept (below_drewN wr nq))
        replace Q2 := hid (Q2.out.kept (below_drewN wr nq))
        clear c10 c11 c20 c21 k3 k4 HS ks hb1 hb2
        generalize wr.drewN nq = wq at *
        have hb1 : b1 < wq.heap.size := World.block_lt_of_cell? _ _ c12
        have hb2 : b2 < wq.heap.size := World.block_lt_of_cell? _ _ c22
        have C1 := hid c12
        have C2 := hid c22
        clear c12 c22
        go_wp2
        go_loopw [6] (fun r wr => ∃ i : Nat, r = .int .i64 i ∧ i ≤ x.ms.length ∧ Hid (x.ms.take i = y.ms.take i) ∧ Hid (Below wq.heap.size wq wr)) (fun r wr => x.ms.length - numAt wr r)
        case atStart => exact ⟨0, rfl, by omega, hid rfl, hid (Below.refl _ _)⟩
        case round =>
          obtain ⟨i, rfl, hi, hTi, hbi⟩ := hrel
          have c12 := cell_below C1.out hbi.out
          have c22 := cell_below C2.out hbi.out
          by_cases hil : i < x.ms.length
          · have k5 : (i : Int) < (x.ms.length : Int) := by omega
            have hil2 : i < y.ms.length := by have := He3.out; omega
            obtain ⟨p1, r1, fa1, fc1, ua1, uc1, rfl, -, hp1, m10, m11, hm1⟩ := mgs_at' (Q1.out.kept hbi.out) hil
            obtain ⟨p2, r2, fa2, fc2, ua2, uc2, rfl, -, hp2, m20, m21, hm2⟩ := mgs_at' (Q2.out.kept hbi.out) hil2
            have HM1 := hid hm1
            have HM2 := hid hm2
            have HNi := hid (fun h => take_next hil hil2 hTi.out h)
            have HNOi := hid (fun h => ne_at (xs := x.ms) (ys := y.ms) hil hil2 h)
            clear hm1 hm2
            generalize x.ms[i] = mx at *
            generalize y.ms[i] = my at *
            go_wp2_with fail
            go_region_with (go_at_call 21; refine (HE.out _ Z Z2 [.slice fa1 mx.fs.length fc1, .slice ua1 mx.us.length uc1] [.slice fa2 my.fs.length fc2, .slice ua2 my.us.length uc2] mx my (HM1.out.kept (bl_drewW _)) (HM2.out.kept (bl_drewW _))).mono ?_; rintro e w1 ⟨r, rfl, hr, hbx⟩; replace hr := hid hr; replace hbx : Hid (Below wq.heap.size wq w1) := hid (bl_then (bl_drew hbi.out) hbx))
            all_goals
              cases r with
              | true =>
                have HX : Hid (mx = my) := hid (hr.out.1 rfl)
                clear hr
                go_wp2
                exact ⟨⟨i + 1, by simp, by omega, hid (HNi.out HX.out), hbx⟩, by simp [numAt]; omega⟩
              | false =>
                have HX : Hid (¬ mx = my) := hid (fun e => (by have := hr.out.2 e; cases this))
                clear hr
                go_wp2
                go_ret
                exact EqR.no (HNO.out (fun e => HNOi.out HX.out (by rw [e]))) (below_trans hb.out hbx.out)
          · have k5 : ¬ (i : Int) < (x.ms.length : Int) := by omega
            go_wp2
            exact ⟨⟨j + 1, by simp, by omega, hid (HN.out (CV.ext3 He1.out He2.out (take_all (by omega) (by have := He3.out; omega) hTi.out))), hid (below_trans hb.out hbi.out)⟩, by simp [numAt]; omega⟩
      · have k2 : ¬ (j : Int) < (xs.length : Int) := by omega
        go_wp2
        go_ret
        exact EqR.yes (take_all (by omega) (by have := HL.out; omega) hT.out) hb.out
  · have q0 : ((xs.length : Int) == (ys.length : Int)) = false := by simp; omega
    have HL := hid hl
    clear hl
    go_enter Tryz.func26, Tryz.ntmps26
    go_wp2
    go_ret
    exact EqR.no (fun q => HL.out (by rw [q])) (Below.refl _ _)
theorem sameFieldD (d : Nat) (HE : EqDAt d) (w : World) (Z Z2 : Nat → Prop) (cs ds : List Value) (x y : CF CM) (h1 : FldE w Z (MsgE w Z d) cs x) (h2 : FldE w Z2 (MsgE w Z2 d) ds y) : Calls Tryz.prog 14 #[.agg cs.toArray, .agg ds.toArray] w (EqR w (x = y)) := by
  obtain ⟨ka1, kc1, va1, vc1, rfl, g1, m1, -⟩ := fld_open h1
  obtain ⟨ka2, kc2, va2, vc2, rfl, g2, m2, -⟩ := fld_open h2
  have G1 := hid g1
  have G2 := hid g2
  have M1 := hid m1
  have M2 := hid m2
  replace HE := hid HE
  clear g1 g2 h1 h2 m1 m2
  go_enter Tryz.func14, Tryz.ntmps14
  by_cases e1 : x.num = y.num
  case neg =>
    have kq : (x.num == y.num) = false := by simpa using e1
    have HX := hid e1
    clear e1
    go_wp2
    go_ret
    exact EqR.no (fun e => HX.out (by rw [e])) (by exact blBy)
  have kqe1 : (x.num == y.num) = true := by simpa using e1
  have He1 := hid e1
  clear e1
  go_wp2_with fail
  refine (valsD d HE.out _ Z Z2 x.ks y.ks ka1 ka2 kc1 kc2 (G1.out.kept (by exact blBy)) (G2.out.kept (by exact blBy))).mono ?_
  rintro e w1 ⟨r1, rfl, hr, hb⟩
  have HR := hid hr
  clear hr
  have Bx : Blk w1 w.heap.size 33 #[.int .i64 x.num, .slice ka1 x.ks.length kc1, .slice va1 x.vs.length vc1] := ((Blk.new _ _ _).kept (below_alloc _)).kept hb
  have By : Blk w1 (w.heap.size + 1) 33 #[.int .i64 y.num, .slice ka2 y.ks.length kc2, .slice va2 y.vs.length vc2] := (Blk.newAt (by simp)).kept hb
  have hbz : Hid (Below w.heap.size w w1) := hid (bl_then (by exact blBy) hb)
  clear hb
  cases r1 with
  | false =>
    have HX : Hid (¬ x.ks = y.ks) := hid (fun e => (by have := HR.out.2 e; cases this))
    clear HR
    go_wp2
    go_ret
    exact EqR.no (fun e => HX.out (by rw [e])) hbz.out
  | true =>
  have e2 : Hid (x.ks = y.ks) := hid (HR.out.1 rfl)
  clear HR
  have xx := Bx.cellF
  have zx := Bx.lt
  have xy := By.cellF
  have zy := By.lt
  go_wp2_with fail
  refine (valsD d HE.out _ Z Z2 x.vs y.vs va1 va2 vc1 vc2 (M1.out.kept hbz.out) (M2.out.kept hbz.out)).mono ?_
  rintro e w2 ⟨r2, rfl, hr, hb⟩
  have HR := hid hr
  clear hr
  replace Bx := Bx.kept hb
  replace By := By.kept hb
  replace hbz : Hid (Below w.heap.size w w2) := hid (bl_then (by have := hbz.out; exact blBy) hb)
  clear xx zx xy zy
  clear hb
  cases r2 with
  | false =>
    have HX : Hid (¬ x.vs = y.vs) := hid (fun e => (by have := HR.out.2 e; cases this))
    clear HR
    go_wp2
    go_ret
    exact EqR.no (fun e => HX.out (by rw [e])) hbz.out
  | true =>
  have e3 : Hid (x.vs = y.vs) := hid (HR.out.1 rfl)
  clear HR
  go_wp2
  go_ret
  exact EqR.yes (CF.ext3 He1.out e2.out e3.out) hbz.out
theorem equalD : ∀ d, EqDAt d
  | 0 => fun _ _ _ _ _ _ _ h => h.elim
  | d + 1 => fun w Z Z2 cs ds x y h1 h2 => by
    have HE := hid (equalD d)
    obtain ⟨ka1, kc1, va1, vc1, rfl, g1, m1, lf1, -⟩ := msg_open h1
    obtain ⟨ka2, kc2, va2, vc2, rfl, g2, m2, -⟩ := msg_open h2
    have G1 := hid g1
    have G2 := hid g2
    have M1 := hid m1
    have M2 := hid m2
    have ln : (x.fs.length : Int) ≤ 9223372036854775807 := by omega
    clear g1 g2 h1 h2 m1 m2
    by_cases hl : x.fs.length = y.fs.length
    · have HL := hid hl
      rw [← hl] at G2
      rw [← hl]
      clear hl
      go_enter Tryz.func21, Tryz.ntmps21
      go_wp2_with fail
      refine (listD _ Z Z2 x.us y.us va1 va2 vc1 vc2 (M1.out.kept (by exact blBy)) (M2.out.kept (by exact blBy))).mono ?_
      rintro e w1 ⟨r1, rfl, hr, hb⟩
      have HR := hid hr
      have Bx : Blk w1 w.heap.size 29 #[.slice ka1 x.fs.length kc1, .slice va1 x.us.length vc1] := ((Blk.new _ _ _).kept (below_alloc _)).kept hb
      have By : Blk w1 (w.heap.size + 1) 29 #[.slice ka2 x.fs.length kc2, .slice va2 y.us.length vc2] := (Blk.newAt (by simp)).kept hb
      have hbz : Hid (Below w.heap.size w w1) := hid (bl_then (by exact blBy) hb)
      clear hb hr
      cases r1 with
      | false =>
        have HX : Hid (¬ x.us = y.us) := hid (fun e => (by have := HR.out.2 e; cases this))
        clear HR
        go_wp2
        go_ret
        exact EqR.no (fun e => HX.out (by rw [e])) hbz.out
      | true =>
      have HU : Hid (x.us = y.us) := hid (HR.out.1 rfl)
      clear HR
      have HBx := hid Bx
      have HBy := hid By
      clear Bx By
      go_wp2
      go_loopw [5] (fun r wr => ∃ j : Nat, r = .int .i64 j ∧ j ≤ x.fs.length ∧ Hid (x.fs.take j = y.fs.take j) ∧ Hid (Below w1.heap.size w1 wr)) (fun r wr => x.fs.length - numAt wr r)
      case atStart => exact ⟨0, rfl, by omega, hid rfl, hid (Below.refl _ _)⟩
      case round =>
        obtain ⟨j, rfl, hj, hT, hb⟩ := hrel
        have Bx := HBx.out.kept hb.out
        have By := HBy.out.kept hb.out
        have xx := Bx.cellF
        have zx := Bx.lt
        have xy := By.cellF
        have zy := By.lt
        clear Bx By
        by_cases hlt : j < x.fs.length
        · have k2 : (j : Int) < (x.fs.length : Int) := by omega
          have hlt2 : j < y.fs.length := by have := HL.out; omega
          obtain ⟨p1, o1, pa1, pc1, qa1, qc1, rfl, -, hp1, c10, c11, c12, he1⟩ := fls_at (G1.out.kept (below_trans hbz.out hb.out)) hlt
          obtain ⟨p2, o2, pa2, pc2, qa2, qc2, rfl, -, hp2, c20, c21, c22, he2⟩ := fls_at (G2.out.kept (below_trans hbz.out hb.out)) hlt2
          have HE1 := hid he1
          have HE2 := hid he2
          have HN := hid (fun h => take_next hlt hlt2 hT.out h)
          have HNO := hid (fun h => ne_at (xs := x.fs) (ys := y.fs) hlt hlt2 h)
          clear he1 he2
          generalize x.fs[j] = f at *
          generalize y.fs[j] = g at *
          go_wp2_with fail
          go_region_with (go_at_call 14; refine (sameFieldD d HE.out _ Z Z2 [.int .i64 f.num, .slice pa1 f.ks.length pc1, .slice qa1 f.vs.length qc1] [.int .i64 g.num, .slice pa2 g.ks.length pc2, .slice qa2 g.vs.length qc2] f g (HE1.out.kept (bl_drewW _)) (HE2.out.kept (bl_drewW _))).mono ?_; rintro e w2 ⟨r, rfl, hr, hbx⟩; replace hr := hid hr; replace hbx : Hid (Below w1.heap.size w1 w2) := hid (bl_then (bl_drew hb.out) hbx))
          all_goals
            cases r with
            | true =>
              have HX : Hid (f = g) := hid (hr.out.1 rfl)
              clear hr
              go_wp2
              exact ⟨⟨j + 1, by simp, by omega, hid (HN.out HX.out), hbx⟩, by simp [numAt]; omega⟩
            | false =>
              have HX : Hid (¬ f = g) := hid (fun e => (by have := hr.out.2 e; cases this))
              clear hr
              go_wp2
              go_ret
              exact EqR.no (fun e => HNO.out HX.out (by rw [e])) (below_trans hbz.out hbx.out)
        · have k2 : ¬ (j : Int) < (x.fs.length : Int) := by omega
          go_wp2
          go_ret
          exact EqR.yes (CM.ext (take_all (by omega) (by have := HL.out; omega) hT.out) HU.out) (below_trans hbz.out hb.out)
    · have q0 : ((x.fs.length : Int) == (y.fs.length : Int)) = false := by simp; omega
      have HL := hid hl
      clear hl
      go_enter Tryz.func21, Tryz.ntmps21
      go_wp2
      go_ret
      exact EqR.no (fun q => HL.out (by rw [q])) (by exact blBy)
set_option maxHeartbeats 4000000
theorem emptyD10 (w : World) (Z : Nat → Prop) (d : Nat) (cs : List Value) (m : CM) (hm : MsgE w Z d cs m) : Calls Tryz.prog 12 #[.agg cs.toArray] w fun e w' => e = .returned (.bool (((m.fs.length : Int) == 0) && ((m.us.length : Int) == 0))) ∧ Below w.heap.size w w' := by
  have hd : ∃ k, d = k + 1 := by
    cases d with
    | zero => exact hm.elim
    | succ k => exact ⟨k, rfl⟩
  obtain ⟨k, rfl⟩ := hd
  obtain ⟨fa, fc, ua, uc, rfl, -, -, l1, l2⟩ := msg_open hm
  clear hm
  have m1 : (m.fs.length : Int) ≤ 9223372036854775807 := by omega
  have m2 : (m.us.length : Int) ≤ 9223372036854775807 := by omega
  go_enter Tryz.func12, Tryz.ntmps12
  go_wp2
  all_goals (go_ret; exact ⟨ret_bool (by simp [*]), by exact blBy⟩)
/-- A number as a value; a field of numbers. -/
def nV (v : Int) : CV CM := ⟨v, [], []⟩
def nL (k : Int) (vs : List Int) : CF CM := ⟨k, [], vs.map nV⟩
theorem msgW10 (w : World) (a : Option Addr) (n c : Nat) : Calls Tryz.prog 6 #[.slice a n c] w fun e w' => e = .returned (.agg #[.slice a n c, .slice none 0 0]) ∧ Below w.heap.size w w' := by
  go_enter Tryz.func6, Tryz.ntmps6
  go_wp2
  exact bodyPost_ret (v := .agg #[.slice a n c, .slice none 0 0]) (by simp [results, Tryz.results6, go_sem]) rfl ⟨rfl, by exact blBy⟩
theorem nW10 (w : World) (d : Nat) (k : Int) (hk : I64 k) (vs : List Int) (hv : ∀ v ∈ vs, U64 v ∧ IntKind.u64.wrap v = v) (la : Option Addr) (lc : Nat) (Z : Nat → Prop) (hr : RowM w Z 1 (FmI w Z) (.slice la vs.length lc) vs) : Calls Tryz.prog 7 #[.int .i64 k, .slice la vs.length lc] w fun e w' => ∃ cs : List Value, e = .returned (.agg cs.toArray) ∧ FmF d w' (w.heap.size ≤ ·) cs (nL k vs) ∧ Below w.heap.size w w' := by
  obtain ⟨_, _, -, lv⟩ := RowM.sl hr
  have mU : (vs.length : Int) ≤ 9223372036854775807 := by omega
  have HV := hid hv
  have HK := hid hk
  have HRR := hid hr
  clear hv hk hr
  go_enter Tryz.func7, Tryz.ntmps7
  go_wp2
  generalize hw0 : World.alloc (World.alloc w _) _ = w0
  have HB0 : Hid (Below w.heap.size w w0) := hid (hw0 ▸ (by exact blBy))
  have HS0 : Hid (w0.heap.size = w.heap.size + 2) := hid (by rw [← hw0]; simp)
  have BR : Hid (Blk w0 w.heap.size 33 #[.int .i64 0, .slice none 0 0, .slice none 0 0]) := hid (hw0 ▸ ((Blk.new _ _ _).kept (below_alloc _)))
  have BQ : Hid (Blk w0 (w.heap.size + 1) 33 #[.int .i64 k, .slice none 0 0, .slice none 0 0]) := hid (hw0 ▸ (Blk.newAt (by simp)))
  clear hw0
  generalize hq : w.heap.size + 1 = q at *
  have HQ : Hid (q = w.heap.size + 1) := hid hq.symm
  clear hq
  have HqN : q < w0.heap.size := BQ.out.lt
  go_loopw [6] (fun s6 wr => ∃ (j : Nat) (oa : Option Addr) (oc : Nat), s6 = .int .i64 (j : Int) ∧ j ≤ vs.length ∧ Hid (Blk wr q 33 #[.int .i64 k, .slice none 0 0, .slice oa j oc]) ∧ Hid (OwnY wr w0.heap.size (fun _ => False) 39 3 (FmV d) (.slice oa j oc) ((vs.take j).map nV)) ∧ Hid (Keep (fun b => b < w0.heap.size ∧ b ≠ q) w0 wr)) (fun s6 wr => vs.length - numAt wr s6)
  case atStart => exact ⟨0, none, 0, rfl, by omega, BQ, hid (OwnY.nil _ _ _ _ _ _), hid (Keep.refl _ _)⟩
  case round =>
    obtain ⟨j, oa, oc, rfl, hj, BQr, HO1, HK1⟩ := hrel
    by_cases hlt : j < vs.length
    · have k2 : (j : Int) < (vs.length : Int) := by omega
      have k3 : (0 : Int) ≤ (j : Int) := by omega
      obtain ⟨b1, o1, cs, rfl, -, hb1, hl1, hm1, hc1⟩ := RowM.at HRR.out (by decide) hlt
      have hcs : cs = [.int .i64 vs[j]] := hm1
      subst hcs
      have c0 := cellKp (cell_below (hc1 0 _ rfl) HB0.out) HK1.out (by have := HS0.out; have := HQ.out; constructor <;> omega)
      simp only [Nat.mul_one, Nat.add_zero] at c0
      have HT1 : Hid ((vs.take (j + 1)).map nV = (vs.take j).map nV ++ [nV vs[j]]) := hid (by rw [List.take_succ_eq_append_getElem hlt, List.map_append]; rfl)
      have HLa : Hid (((vs.take j).map nV).length = j) := hid (by rw [List.length_map, List.length_take]; omega)
      have HLj : Hid (j + 1 ≤ 4000000) := hid (by omega)
      obtain ⟨hu, hw⟩ := HV.out vs[j] (List.getElem_mem hlt)
      have HXX : Hid (FmV d wr (fun _ => False) [.int .u64 vs[j], .slice none 0 0, .slice none 0 0] (nV vs[j])) := hid ⟨_, _, rfl, ⟨rowS_nil _ _ 1, by simp [nV], by simp [nV]⟩, RowM.nil _ _ _ _, hu⟩
      have hbq : b1 ≠ q := by have := HQ.out; omega
      clear hm1 hc1 hu
      generalize vs[j] = x at *
      have HSZ : Hid (w0.heap.size ≤ wr.heap.size) := hid HK1.out.size
      go_upto_region 5 with fail
      have BQx := hid (BQr.out.kept (below_drew1 _))
      have HOx := hid (HO1.out.kept (famV d) (below_drew1 _))
      have C0 := hid c0
      have HS0K : Hid (∀ W, Keep (fun b => b = b1) wr W → (fun W => W.cell? ⟨b1, o1 + j, none⟩ = some (.int .i64 x)) W) := hid fun W hk => cellKp C0.out hk rfl
      have HSK : Hid (∀ W, Keep (fun b => b = b1 ∨ b = q) wr W → (fun W => W.cell? ⟨b1, o1 + j, none⟩ = some (.int .i64 x)) W ∧ (fun W => ∀ k1, W.cell? ⟨q, k1, none⟩ = #[.int .i64 k, .slice none 0 0, .slice oa j oc][k1]?) W) := hid fun W hk => ⟨cellKp C0.out hk (Or.inl rfl), (BQr.out.keep hk (Or.inr rfl)).cellF⟩
      have KD : Hid (Keep (fun b => b = b1 ∨ b = q) wr wr.drew) := hid (Keep.ofBelow (below_drew1 _))
      refine wp_regionL (S := SL (fun W => W.cell? ⟨b1, o1 + j, none⟩ = some (.int .i64 x)) (fun W => ∀ k1, W.cell? ⟨q, k1, none⟩ = #[.int .i64 k, .slice none 0 0, .slice oa j oc][k1]?) 11) (by kernel_rfl) (SL.of (HSK.out _ KD.out).1 (HSK.out _ KD.out).2) (fun hHeld => ?_)
      refine takeL0 0 (v := ?_) rfl (by kernel_rfl) (by kernel_rfl) (by kernel_rfl) (fun _ _ _ h => h) (by kernel_rfl) (Or.inl ⟨by rfl, ?_⟩) hHeld (fun hHeld => ?_)
      rotate_left
      · (intro w hSw; (try obtain ⟨hSw, hSx⟩ := hSw); (try dsimp only at hSw); (try dsimp only at hSx); go_simp; (try with_reducible rfl))
      try simp only [Act.put, List.getElem_toArray, List.getElem_cons_succ, List.getElem_cons_zero, List.setIfInBounds_toArray, List.set_cons_zero, List.set_cons_succ]
      refine takeL1 1 (v := ?_) rfl rfl (by kernel_rfl) (by kernel_rfl) (by kernel_rfl) (by kernel_rfl) (by kernel_rfl) (fun _ _ _ h => h) (by kernel_rfl) (Or.inl ⟨by rfl, ?_⟩) hHeld (fun hHeld => ?_)
      rotate_left
      · (intro w hSw; (try obtain ⟨hSw, hSx⟩ := hSw); (try dsimp only at hSw); (try dsimp only at hSx); go_simp; (try with_reducible rfl))
      try simp only [Act.put, List.getElem_toArray, List.getElem_cons_succ, List.getElem_cons_zero, List.setIfInBounds_toArray, List.set_cons_zero, List.set_cons_succ]
      refine takeL0 2 (v := ?_) rfl (by kernel_rfl) (by kernel_rfl) (by kernel_rfl) (fun _ _ _ h => h) (by kernel_rfl) (Or.inl ⟨by rfl, ?_⟩) hHeld (fun hHeld => ?_)
      rotate_left
      · (intro w hSw; (try obtain ⟨hSw, hSx⟩ := hSw); (try dsimp only at hSw); (try dsimp only at hSx); go_simp; (try with_reducible rfl))
      try simp only [Act.put, List.getElem_toArray, List.getElem_cons_succ, List.getElem_cons_zero, List.setIfInBounds_toArray, List.set_cons_zero, List.set_cons_succ]
      refine takeL0 3 (v := ?_) rfl (by kernel_rfl) (by kernel_rfl) (by kernel_rfl) (fun _ _ _ h => h) (by kernel_rfl) (Or.inl ⟨by rfl, ?_⟩) hHeld (fun hHeld => ?_)
      rotate_left
      · (intro w hSw; (try obtain ⟨hSw, hSx⟩ := hSw); (try dsimp only at hSw); (try dsimp only at hSx); go_simp; (try with_reducible rfl))
      try simp only [Act.put, List.getElem_toArray, List.getElem_cons_succ, List.getElem_cons_zero, List.setIfInBounds_toArray, List.set_cons_zero, List.set_cons_succ]
      refine takeL0 4 (v := ?_) rfl (by kernel_rfl) (by kernel_rfl) (by kernel_rfl) (fun _ _ _ h => h) (by kernel_rfl) (Or.inl ⟨by rfl, ?_⟩) hHeld (fun hHeld => ?_)
      rotate_left
      · (intro w hSw; (try obtain ⟨hSw, hSx⟩ := hSw); (try dsimp only at hSw); (try dsimp only at hSx); go_simp; (try with_reducible rfl))
      try simp only [Act.put, List.getElem_toArray, List.getElem_cons_succ, List.getElem_cons_zero, List.setIfInBounds_toArray, List.set_cons_zero, List.set_cons_succ]
      refine takeL0 5 (v := ?_) rfl (by kernel_rfl) (by kernel_rfl) (by kernel_rfl) (fun _ _ _ h => h) (by kernel_rfl) (Or.inl ⟨by rfl, ?_⟩) hHeld (fun hHeld => ?_)
      rotate_left
      · (intro w hSw; (try obtain ⟨hSw, hSx⟩ := hSw); (try dsimp only at hSw); (try dsimp only at hSx); go_simp; (try with_reducible rfl))
      try simp only [Act.put, List.getElem_toArray, List.getElem_cons_succ, List.getElem_cons_zero, List.setIfInBounds_toArray, List.set_cons_zero, List.set_cons_succ]
      refine takeL0 6 (v := ?_) rfl (by kernel_rfl) (by kernel_rfl) (by kernel_rfl) (fun _ _ _ h => h) (by kernel_rfl) (Or.inl ⟨by rfl, ?_⟩) hHeld (fun hHeld => ?_)
      rotate_left
      · (intro w hSw; (try obtain ⟨hSw, hSx⟩ := hSw); (try dsimp only at hSw); (try dsimp only at hSx); go_simp; (try with_reducible rfl))
      try simp only [Act.put, List.getElem_toArray, List.getElem_cons_succ, List.getElem_cons_zero, List.setIfInBounds_toArray, List.set_cons_zero, List.set_cons_succ]
      refine takeL0 7 (v := ?_) rfl (by kernel_rfl) (by kernel_rfl) (by kernel_rfl) (fun _ _ _ h => h) (by kernel_rfl) (Or.inl ⟨by rfl, ?_⟩) hHeld (fun hHeld => ?_)
      rotate_left
      · (intro w hSw; (try obtain ⟨hSw, hSx⟩ := hSw); (try dsimp only at hSw); (try dsimp only at hSx); go_simp; (try with_reducible rfl))
      try simp only [Act.put, List.getElem_toArray, List.getElem_cons_succ, List.getElem_cons_zero, List.setIfInBounds_toArray, List.set_cons_zero, List.set_cons_succ]
      refine wpAnyL_ready (rs := [8]) (by kernel_rfl) (by simp) ?_
      refine AllReadyL.cons rfl (fun K hK => ?_) ?_
      · go_simp
        have O1 := hid (HOx.out.kept (famV d) (below_alloc (w := wr.drew) (.cells #[.int .u64 x, .slice none 0 0, .slice none 0 0] 39)))
        have B1 : Hid (Blk (wr.drew.alloc (.cells #[.int .u64 x, .slice none 0 0, .slice none 0 0] 39)) wr.heap.size 39 #[.int .u64 x, .slice none 0 0, .slice none 0 0]) := hid (Blk.newAt (by simp))
        have K1 : Hid (Keep (fun b => b = b1 ∨ b = q) wr (wr.drew.alloc (.cells #[.int .u64 x, .slice none 0 0, .slice none 0 0] 39))) := hid (KD.out.trans (Keep.ofBelow (below_alloc _)))
        refine hK.out _ _ ?_ (fun hHeld => ?_)
        · exact SL.of (HSK.out _ K1.out).1 (HSK.out _ K1.out).2
        clear hK K
        try simp only [Act.put, List.getElem_toArray, List.getElem_cons_succ, List.getElem_cons_zero, List.setIfInBounds_toArray, List.set_cons_zero, List.set_cons_succ]
        refine wpAnyL_ready (rs := [9]) (by kernel_rfl) (by simp) ?_
        refine AllReadyL.cons rfl (fun K hK => ?_) ?_
        · obtain ⟨la2, lc2, y1, HR1, OA, HG⟩ := OwnY.one (famV d) 39 31 56 (.agg #[.int .u64 0, .slice none 0 0, .slice none 0 0]) Tryz.underlying31 Tryz.infoV rfl (by decide) (by decide) O1.out (cs := [.int .u64 x, .slice none 0 0, .slice none 0 0]) (x := nV x) (Fam.go (famV d) HXX.out (keepT (by exact blBy)) (fun _ _ => trivial) (fun _ h => h)) B1.out (by have := HSZ.out; simp; omega) (fun _ h => h.elim) (by rw [HLa.out]; exact HLj.out)
          rw [HLa.out] at HR1 OA HG
          have KG : Hid (Keep (fun b => b < w0.heap.size) wr y1) := hid ((Keep.ofBelow (by exact blBy)).trans (Keep.ofGrow HG.out (fun b hb e => by have := (O1.out.own e).1; omega)))
          have KS : Hid (Keep (fun b => b = b1 ∨ b = q) wr y1) := hid (KG.out.weak (fun b hb => by have := HB0.out.size; rcases hb with hb | hb <;> (show b < _) <;> omega))
          refine step_append_ran rfl _ _ 31 31 rfl rfl _ _ (.slice la2 (j + 1) lc2) y1 rfl rfl HR1.out ?_
          refine hK.out _ _ ?_ (fun hHeld => ?_)
          · exact SL.of (HSK.out _ KS.out).1 (HSK.out _ KS.out).2
          clear hK K
          try simp only [Act.put, List.getElem_toArray, List.getElem_cons_succ, List.getElem_cons_zero, List.setIfInBounds_toArray, List.set_cons_zero, List.set_cons_succ]
          refine takeL0 10 (v := ?_) rfl (by kernel_rfl) (by kernel_rfl) (by kernel_rfl) (fun _ _ _ h => h) (by kernel_rfl) (Or.inl ⟨by rfl, ?_⟩) hHeld (fun hHeld => ?_)
          rotate_left
          · (intro w hSw; (try obtain ⟨hSw, hSx⟩ := hSw); (try dsimp only at hSw); (try dsimp only at hSx); go_simp; (try with_reducible rfl))
          try simp only [Act.put, List.getElem_toArray, List.getElem_cons_succ, List.getElem_cons_zero, List.setIfInBounds_toArray, List.set_cons_zero, List.set_cons_succ]
          have BQ2 := hid (BQr.out.keep KG.out HqN)
          have xq := BQ2.out.cellF
          have yq := BQ2.out.frz
          have zq := BQ2.out.lt
          refine wpAnyL_ready (rs := [11]) (by kernel_rfl) (by simp) ?_
          refine AllReadyL.cons rfl (fun K hK => ?_) ?_
          · go_simp
            refine hK.out _ _ ?_ (fun hHeld => ?_)
            · exact SL.late (HS0K.out _ ((KS.out.weak (fun b hb => Or.inl hb)).trans (Keep.setCell _ _ _ (by simpa using Ne.symm hbq)))) (by kernel_rfl)
            clear hK K
            try simp only [Act.put, List.getElem_toArray, List.getElem_cons_succ, List.getElem_cons_zero, List.setIfInBounds_toArray, List.set_cons_zero, List.set_cons_succ]
            refine wpAnyL_done (by kernel_rfl) ?_ _
            have HKQ : Hid (Keep (fun b => b ≠ q) y1 (y1.setCell ⟨q, 2, none⟩ (.slice la2 (j + 1) lc2))) := hid (Keep.setCell _ _ _ (by simp))
            have BQ5 := hid (BQ2.out.set 2 (.slice la2 (j + 1) lc2))
            clear xq yq zq hHeld
            go_wp2
            exact ⟨⟨j + 1, la2, lc2, by simp, by omega, hid (BQ5.out.is (by simp)), hid (by rw [HT1.out]; exact OA.out.keep (famV d) HKQ.out (fun _ h => h.elim) (fun b e => by have := (OA.out.own e).1; omega)), hid ((HK1.out.trans (KG.out.weak (fun b hb => hb.1))).trans (HKQ.out.weak (fun b hb => hb.2)))⟩, by simp [numAt]; omega⟩
          exact AllReadyL.nil
        exact AllReadyL.nil
      exact AllReadyL.nil
    · have k2 : ¬ (j : Int) < (vs.length : Int) := by omega
      obtain rfl : j = vs.length := by omega
      have e1 : vs.take vs.length = vs := List.take_length
      rw [e1] at HO1
      have HR1 := hid (HO1.out.row (famV d) (by rw [List.length_map]; omega))
      have hn2 : w.heap.size < w0.heap.size ∧ w.heap.size ≠ q := by have := HS0.out; have := HQ.out; omega
      have BRr := hid (BR.out.keep HK1.out hn2)
      have xq := BQr.out.cellF
      have zq := BQr.out.lt
      have xr := BRr.out.cellF
      have yr := BRr.out.frz
      have zr := BRr.out.lt
      have HFB : Hid (Below w.heap.size w wr) := hid (Below.trans HB0.out (HK1.out.below HB0.out.size (fun k hk => ⟨by omega, by have := HQ.out; omega⟩)))
      clear HO1 hlt hj e1
      go_wp2
      refine bodyPost_ret (v := .agg #[.int .i64 k, .slice none 0 0, .slice oa vs.length oc]) (by simp [results, Tryz.results7, go_sem, xr, yr, zr]) rfl ⟨[.int .i64 k, .slice none 0 0, .slice oa vs.length oc], rfl, ⟨_, _, rfl, RowM.nil _ _ _ _, ?_, HK.out⟩, ?_⟩
      · have hl : (Value.slice oa vs.length oc) = .slice oa (vs.map nV).length oc := by rw [List.length_map]
        exact VlsR.go HR1.out (keepR _ _ _ _) (fun b hb => by rcases hb with hb | hb; exact hb.elim; show b ≠ _; omega) (fun b hb => by rcases hb with hb | hb; exact hb.elim; show _ ≤ b; omega)
      · exact Below.trans HFB.out ((keepR _ _ _ _).below (Nat.le_trans HFB.out.size (Nat.le_refl _)) (fun k hk => by show k ≠ _; omega))
end Go.Proofs.YtkifjpaoncjokaaGreatDoor
