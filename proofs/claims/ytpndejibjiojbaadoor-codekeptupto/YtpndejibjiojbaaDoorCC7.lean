/-
  code: a line.
  code: steps as lines.
  code: a program's text.
  code: Bytes and Text of valid programs; the reader's numbers.
  Plain mathematics for tags; nothing of the program.
  Plain mathematics for words and chunks; nothing of the program.
-/
import Derived.Test.YtpndejibjiojbaaDoorCC4
import Derived.Deep.DeepCutAuto
import Derived.Test.YtpndejibjiojbaaDoorShelf
import Derived.Test.YtpndejibjiojbaaDoorCw8G
namespace Go.Proofs.YtpndejibjiojbaaDoor
open Go.RowKit
set_option maxRecDepth 1000000
set_option linter.unusedVariables false
set_option linter.unusedSimpArgs false
set_option maxHeartbeats 2000000
theorem str_add (xs ys : List Int) : strOfNums xs ++ strOfNums ys = strOfNums (xs ++ ys) := by
  unfold strOfNums
  apply ByteArray.ext
  simp
/-- What Itoa tells. -/
def ItoaOk (it : Int → List Int) (W0 : World) (n : Int) : Prop := Calls Tryd.prog 46 #[.int .i64 n] W0 fun e w' => e = .returned (.string (strOfNums (it n))) ∧ Below W0.heap.size W0 w'
/-- A number's digits: few, and bytes. -/
structure ItP (it : Int → List Int) : Prop where
  bd : ∀ n, ∀ c ∈ it n, 0 ≤ c ∧ c ≤ 255
  len : ∀ n, (it n).length ≤ 20
def nmT (it : Int → List Int) (ns : List Int) : List Int := ns.flatMap (fun n => 32 :: it n)
theorem nmT_len {it : Int → List Int} (hi : ItP it) (ns : List Int) : (nmT it ns).length ≤ 21 * ns.length := by
  induction ns with
  | nil => exact Nat.le_refl _
  | cons n ns ih =>
    have := hi.len n
    unfold nmT at ih ⊢
    rw [List.flatMap_cons, List.length_append, List.length_cons, List.length_cons]
    omega
theorem nmT_snoc (it : Int → List Int) (ns : List Int) (j : Nat) (h : j < ns.length) : nmT it (ns.take (j + 1)) = nmT it (ns.take j) ++ (32 :: it ns[j]) := by
  unfold nmT
  rw [List.take_add_one, List.getElem?_eq_getElem h, List.flatMap_append]
  simp
/-- A line. -/
def lnT (it : Int → List Int) (s ns : List Int) : List Int := s ++ nmT it ns ++ [10]
theorem lineT (it : Int → List Int) (hi : ItP it) (w : World) (base p : Nat) (xs s ns : List Int) (h : WrA w base p xs) (hp : p < base) (hb : base ≤ w.heap.size) (hs : ∀ c ∈ s, 0 ≤ c ∧ c ≤ 255) (na : Option Addr) (nc : Nat) (hr : ∀ W0, KT base p w W0 → RowS W0 AnyZ 1 (.slice na ns.length nc) ns.length (ns.flatMap cI64)) (hit : ∀ W0, KT base p w W0 → ∀ n ∈ ns, ItoaOk it W0 n) (hl : xs.length + s.length + 21 * ns.length + 1 ≤ 140737488355328) :
    Calls Tryd.prog 26 #[.pointer (some ⟨p, 0, none⟩), .string (strOfNums s), .slice na ns.length nc] w fun e w' => e = .returned (.tuple #[]) ∧ WrA w' base p (xs ++ lnT it s ns) ∧ KT base p w w' := by
  obtain ⟨_, _, e, hln⟩ := rowS_sl (hr _ (KT.refl _ _ _))
  clear e
  have n63 : (ns.length : Int) ≤ 9223372036854775807 := by omega
  have HR := hid hr
  have HIT := hid hit
  have HL := hid hl
  have HB := hid hb
  have HP := hid hp
  have HW1 := hid (writeT w base p xs s h hp hb hs (by omega))
  clear hr hit hl h hb hs
  generalize strOfNums s = sv at *
  go_enter Tryd.func26, Tryd.ntmps26
  go_wp2_with fail
  refine HW1.out.mono ?_
  rintro e w1 ⟨⟨n1, rfl⟩, hw1, hk1⟩
  have HV1 := hid hw1
  have HK1 := hid hk1
  clear hw1 hk1 HW1
  go_wp2
  go_loopw [15] (fun s15 wr => ∃ j : Nat, s15 = .int .i64 (j : Int) ∧ j ≤ ns.length ∧ Hid (WrA wr base p (xs ++ s ++ nmT it (ns.take j))) ∧ Hid (KT base p w wr)) (fun s15 wr => ns.length - numAt wr s15)
  case atStart => exact ⟨0, rfl, by omega, hid (by simpa [nmT] using HV1.out), HK1⟩
  case round =>
    obtain ⟨j, rfl, hj, HV, HK⟩ := hrel
    clear HV1 HK1
    by_cases hlt : j < ns.length
    · have h2 : (j : Int) < (ns.length : Int) := by omega
      obtain ⟨g4, go4, eg, hc⟩ := rowAt (g := cI64) (fun _ => rfl) (HR.out _ HK.out) (i := j) (x := ns[j]) (by simp [hlt])
      subst eg
      have c0 := hc 0 _ rfl
      clear hc
      simp only [Nat.add_zero, Nat.mul_one] at c0
      have hgb : g4 < wr.heap.size := World.block_lt_of_cell? _ _ c0
      have HSN := hid (nmT_snoc it ns j hlt)
      have HI := hid fun W0 (hW : KT base p w W0) => HIT.out W0 hW ns[j] (List.getElem_mem hlt)
      have HLN : Hid ((xs ++ s ++ nmT it (ns.take j)).length + 21 ≤ 140737488355328) := hid (by
        have h1 := nmT_len hi (ns.take j)
        have h3 := HL.out
        rw [List.length_append, List.length_append]
        rw [List.length_take] at h1
        omega)
      generalize ns[j] = n at *
      have HBD : Hid (∀ c ∈ 32 :: it n, 0 ≤ c ∧ c ≤ 255) := hid (by
        intro c hc
        rcases List.mem_cons.1 hc with rfl | hc
        · decide
        · exact hi.bd n c hc)
      have HLI := hid (hi.len n)
      have hcat : (⟨#[32]⟩ : ByteArray) ++ strOfNums (it n) = strOfNums (32 :: it n) := str_add [32] (it n)
      have hsz : (strOfNums (it n)).size = (it n).length := strOfNums_size _
      have hno : ¬ 9223372036854775807 < 1 + (strOfNums (it n)).size := by have := HLI.out; rw [hsz]; omega
      have hno2 : ¬ 9223372036854775807 < (1 : Int) + ((strOfNums (it n)).size : Int) := by have := HLI.out; rw [hsz]; omega
      go_upto_region 4 with fail
      go_region_with (first | (go_at_call 46; refine (HI.out _ (HK.out.trans (KT.below (by first | exact below_drew1 _ | exact Below.refl _ _)))).mono ?_; rintro e w2 ⟨rfl, hb2⟩) | (go_at_call 45; refine (writeT _ base p _ (32 :: it n) ((HV.out.kept (below_drew1 _)).kept hb2) HP.out (by have h1 := HB.out; have h2 := HK.out.kp.size; have h3 := hb2.size; have h4 := (below_drew1 wr).size; omega) HBD.out (by have h1 := HLN.out; have h2 := HLI.out; rw [List.length_cons]; omega)).mono ?_; rintro e w3 ⟨⟨n3, rfl⟩, hw3, hk3⟩))
      have HV3 : Hid (WrA w3 base p (xs ++ s ++ nmT it (ns.take (j + 1)))) := hid (by rw [HSN.out, ← List.append_assoc]; exact hw3)
      have HK3 : Hid (KT base p w w3) := hid (HK.out.trans ((KT.below (bl_then (below_drew1 _) hb2)).trans hk3))
      clear hw3 hk3 hb2
      go_wp2
      exact ⟨⟨j + 1, by simp, by omega, HV3, HK3⟩, by simp [numAt]; omega⟩
    · have h2 : ¬ (j : Int) < (ns.length : Int) := by omega
      obtain rfl : j = ns.length := by omega
      have HLN : Hid ((xs ++ s ++ nmT it (ns.take ns.length)).length + 1 ≤ 140737488355328) := hid (by
        have h1 := nmT_len hi (ns.take ns.length)
        have h3 := HL.out
        rw [List.length_append, List.length_append]
        rw [List.length_take] at h1
        omega)
      have HWE := hid (writeT wr base p _ [10] HV.out HP.out (by have h1 := HB.out; have h2 := HK.out.kp.size; omega) (by intro c hc; simp at hc; subst hc; decide) HLN.out)
      rw [show strOfNums [10] = (⟨#[10]⟩ : ByteArray) from rfl] at HWE
      go_wp2_with fail
      refine HWE.out.mono ?_
      rintro e w3 ⟨⟨n3, rfl⟩, hw3, hk3⟩
      have HV3 : Hid (WrA w3 base p (xs ++ lnT it s ns)) := hid (by
        unfold lnT
        rw [List.take_length] at hw3
        simpa [List.append_assoc] using hw3)
      have HK3 : Hid (KT base p w w3) := hid (HK.out.trans hk3)
      clear hw3 hk3
      go_wp2
      go_end0
      exact ⟨rfl, HV3.out, HK3.out⟩
end Go.Proofs.YtpndejibjiojbaaDoor
namespace Go.Proofs.YtpndejibjiojbaaDoor
open Go.RowKit
set_option maxRecDepth 1000000
set_option linter.unusedVariables false
set_option linter.unusedSimpArgs false
set_option maxHeartbeats 4000000
/-- An operation's name. -/
def opN (n : Int) : List Int := opNm[(n - 1).toNat]?.getD []
/-- Ahead of a step's numbers. -/
def stH (it : Int → List Int) (word : List Int) (j : Nat) (s : IN) : List Int := [32, 32] ++ word ++ [32] ++ it (j : Int) ++ [32] ++ opN s.op
def stT (it : Int → List Int) (word : List Int) : List IN → Nat → List Int
  | [], _ => []
  | s :: l, j => lnT it (stH it word j s) ((insN s).take (opC s.op)) ++ stT it word l (j + 1)
theorem stT_app (it : Int → List Int) (word : List Int) : ∀ (a b : List IN) (j : Nat), stT it word (a ++ b) j = stT it word a j ++ stT it word b (j + a.length)
  | [], b, j => by simp [stT]
  | s :: a, b, j => by
    rw [List.cons_append, stT, stT, stT_app it word a b (j + 1), List.append_assoc, List.length_cons]
    congr 3
    omega
theorem stT_snoc (it : Int → List Int) (word : List Int) (l : List IN) (j : Nat) (h : j < l.length) : stT it word (l.take (j + 1)) 0 = stT it word (l.take j) 0 ++ lnT it (stH it word j l[j]) ((insN l[j]).take (opC l[j].op)) := by
  rw [List.take_add_one, List.getElem?_eq_getElem h, stT_app]
  simp only [Option.toList_some, stT, List.append_nil, List.length_take, Nat.zero_add]
  rw [show min j l.length = j by omega]
theorem opNm_len : ∀ x ∈ opNm, x.length ≤ 7 ∧ ∀ c ∈ x, 0 ≤ c ∧ c ≤ 255 := by decide
theorem opN_ok (n : Int) : (opN n).length ≤ 7 ∧ ∀ c ∈ opN n, 0 ≤ c ∧ c ≤ 255 := by
  unfold opN
  cases h : opNm[(n - 1).toNat]? with
  | none => simp
  | some x => exact opNm_len x (List.mem_of_getElem? h)
theorem stH_len {it : Int → List Int} (hi : ItP it) (word : List Int) (hw : word.length ≤ 3) (j : Nat) (s : IN) : (stH it word j s).length ≤ 34 := by
  have h1 := hi.len (j : Int)
  have h2 := (opN_ok s.op).1
  unfold stH
  simp only [List.length_append, List.length_cons, List.length_nil]
  omega
theorem stH_bd {it : Int → List Int} (hi : ItP it) (word : List Int) (hw : ∀ c ∈ word, 0 ≤ c ∧ c ≤ 255) (j : Nat) (s : IN) : ∀ c ∈ stH it word j s, 0 ≤ c ∧ c ≤ 255 := by
  intro c hc
  unfold stH at hc
  simp only [List.mem_append, List.mem_cons, List.not_mem_nil, or_false] at hc
  rcases hc with ((((h | h) | h) | h) | h) | h
  · omega
  · exact hw c h
  · omega
  · exact hi.bd _ c h
  · omega
  · exact (opN_ok s.op).2 c h
theorem stT_len {it : Int → List Int} (hi : ItP it) (word : List Int) (hw : word.length ≤ 3) : ∀ (l : List IN) (j : Nat), (stT it word l j).length ≤ 119 * l.length
  | [], j => Nat.le_refl _
  | s :: l, j => by
    have h1 := stT_len hi word hw l (j + 1)
    have h2 := stH_len hi word hw j s
    have h3 := nmT_len hi ((insN s).take (opC s.op))
    have h4 : ((insN s).take (opC s.op)).length ≤ 4 := by rw [List.length_take]; simp [insN]; omega
    rw [stT, List.length_append, List.length_cons]
    unfold lnT
    simp only [List.length_append, List.length_cons, List.length_nil]
    omega
theorem WrA.cells {w : World} {base p : Nat} {xs : List Int} (h : WrA w base p xs) : p < w.heap.size ∧ ∀ i, i < 75 → w.cell? ⟨p, i, none⟩ = opAll.toArray[i]? := by
  obtain ⟨a, v, hB, _, _⟩ := h
  exact ⟨hB.lt, fun i hi => by rw [hB.cellF, wrC_lo a v i hi]⟩
theorem wstepsT (it : Int → List Int) (hi : ItP it) (w : World) (base p : Nat) (xs word : List Int) (hwl : word.length ≤ 3) (hwb : ∀ c ∈ word, 0 ≤ c ∧ c ≤ 255) (h : WrA w base p xs) (hp : p < base) (hb : base ≤ w.heap.size) (l : List IN) (la : Option Addr) (lc : Nat) (hr : ∀ W0, KT base p w W0 → RowS W0 AnyZ 5 (.slice la l.length lc) l.length (l.flatMap cIN)) (hn : ∀ s ∈ l, InW s) (P : Int → Prop) (hit : ∀ W0, KT base p w W0 → ∀ n, P n → ItoaOk it W0 n) (hPj : ∀ j : Nat, j < l.length → P (j : Int)) (hPn : ∀ s ∈ l, ∀ x ∈ insN s, P x) (hl : xs.length + 119 * l.length ≤ 140737488355328) :
    Calls Tryd.prog 27 #[.pointer (some ⟨p, 0, none⟩), .string (strOfNums word), .slice la l.length lc] w fun e w' => e = .returned (.tuple #[]) ∧ WrA w' base p (xs ++ stT it word l 0) ∧ KT base p w w' := by
  obtain ⟨_, _, e, hln⟩ := rowS_sl (hr _ (KT.refl _ _ _))
  clear e
  have n63 : (l.length : Int) ≤ 9223372036854775807 := by omega
  have HR := hid hr
  have HIT := hid hit
  have HPJ := hid hPj
  have HPN := hid hPn
  have HN := hid hn
  have HL := hid hl
  have HB := hid hb
  have HP := hid hp
  have HV0 := hid h
  have HWB := hid hwb
  clear hr hit hl h hb hPj hPn hn hwb
  have HE1 : Hid ((⟨#[32, 32]⟩ : ByteArray) ++ strOfNums word = strOfNums ([32, 32] ++ word)) := hid (str_add [32, 32] word)
  have HF0 : Hid ((strOfNums word).size ≤ 3) := hid (by rw [strOfNums_size]; exact hwl)
  generalize strOfNums word = sw at *
  go_enter Tryd.func27, Tryd.ntmps27
  go_wp2
  go_loopw [12] (fun s12 wr => ∃ j : Nat, s12 = .int .i64 (j : Int) ∧ j ≤ l.length ∧ Hid (WrA wr base p (xs ++ stT it word (l.take j) 0)) ∧ Hid (KT base p w wr)) (fun s12 wr => l.length - numAt wr s12)
  case atStart => exact ⟨0, rfl, by omega, hid (by simpa [stT] using HV0.out), hid (KT.refl _ _ _)⟩
  case round =>
    obtain ⟨j, rfl, hj, HV, HK⟩ := hrel
    clear HV0
    by_cases hlt : j < l.length
    · have h2 : (j : Int) < (l.length : Int) := by omega
      obtain ⟨g4, go4, eg, hc⟩ := rowAt (g := cIN) (fun _ => rfl) (HR.out _ HK.out) (i := j) (x := l[j]) (by simp [hlt])
      subst eg
      have c0 := hc 0 _ rfl
      have c1 := hc 1 _ rfl
      have c2 := hc 2 _ rfl
      have c3 := hc 3 _ rfl
      have c4 := hc 4 _ rfl
      clear hc
      simp only [Nat.add_zero] at c0
      have hgb : g4 < wr.heap.size := World.block_lt_of_cell? _ _ c0
      have HX := hid (HN.out l[j] (List.getElem_mem hlt))
      have HPX := hid (HPN.out l[j] (List.getElem_mem hlt))
      have HPI := hid (HPJ.out j hlt)
      have HSN := hid (stT_snoc it word l j hlt)
      have HLN : Hid ((xs ++ stT it word (l.take j) 0).length + 119 ≤ 140737488355328) := hid (by
        have h1 := stT_len hi word hwl (l.take j) 0
        have h3 := HL.out
        rw [List.length_append]
        rw [List.length_take] at h1
        omega)
      generalize l[j] = s at *
      have HHL := hid (stH_len hi word hwl j s)
      have HHB := hid (stH_bd hi word HWB.out j s)
      obtain ⟨n, a, b, c, d⟩ := s
      obtain ⟨k, hk, hk25⟩ : ∃ k : Nat, n = (k : Int) + 1 ∧ k < 25 := ⟨(n - 1).toNat, by have := HX.out.op; dsimp only at this; omega⟩
      subst hk
      dsimp only at c0 c1 c2 c3 c4
      have HNU := hid fun W0 (hW : Below wr.heap.size wr W0) => numberedC W0 p ((k : Int) + 1) (by have := (HV.out.kept hW).cells.1; exact this) (HV.out.kept hW).cells.2
      rw [numV_yes k hk25] at HNU
      have HCT : Hid (opC ((k : Int) + 1) = opCt[k]?.getD 0) := hid (by unfold opC; congr 2; omega)
      have HNM : Hid (opN ((k : Int) + 1) = opNm[k]?.getD []) := hid (by unfold opN; congr 2; omega)
      have HC4 := hid (opC_le ((k : Int) + 1))
      rw [HCT.out] at HC4
      generalize opNm[k]?.getD [] = nm at *
      generalize opCt[k]?.getD 0 = ct at *
      have hpw : p < wr.heap.size := HV.out.cells.1
      go_upto_region 3 with fail
      have B7 : Hid (Blk (wr.alloc (.cells #[.int .i64 ((k : Int) + 1), .int .i64 a, .int .i64 b, .int .i64 c, .int .i64 d] 37)) wr.heap.size 37 #[.int .i64 ((k : Int) + 1), .int .i64 a, .int .i64 b, .int .i64 c, .int .i64 d]) := hid (Blk.new _ _ _)
      have HV7 := hid (HV.out.kept (below_alloc (w := wr) (.cells #[.int .i64 ((k : Int) + 1), .int .i64 a, .int .i64 b, .int .i64 c, .int .i64 d] 37)))
      have HK7 : Hid (KT base p w (wr.alloc (.cells #[.int .i64 ((k : Int) + 1), .int .i64 a, .int .i64 b, .int .i64 c, .int .i64 d] 37))) := hid (HK.out.trans (KT.below (below_alloc _)))
      have HNU7 := hid fun W0 (hW : Below (wr.alloc (.cells #[.int .i64 ((k : Int) + 1), .int .i64 a, .int .i64 b, .int .i64 c, .int .i64 d] 37)).heap.size (wr.alloc (.cells #[.int .i64 ((k : Int) + 1), .int .i64 a, .int .i64 b, .int .i64 c, .int .i64 d] 37)) W0) => HNU.out W0 (bl_then (below_alloc _) hW)
      clear HV HK HNU c0 c1 c2 c3 c4 hgb hpw
      generalize wr.alloc (.cells #[.int .i64 ((k : Int) + 1), .int .i64 a, .int .i64 b, .int .i64 c, .int .i64 d] 37) = V at *
      generalize wr.heap.size = p7 at *
      have x7 := B7.out.cellF
      have z7 := B7.out.lt
      go_cut [8, 9] (fun s8 s9 wc => ∃ q : Nat, s8 = .pointer (some ⟨q, 0, none⟩) ∧ s9 = .bool true ∧ Hid (q ≠ p) ∧ Hid (Blk wc q 56 #[.int .i64 ((k : Int) + 1), .string (strOfNums nm), .int .i64 (ct : Int)]) ∧ Hid (Blk wc p7 37 #[.int .i64 ((k : Int) + 1), .int .i64 a, .int .i64 b, .int .i64 c, .int .i64 d]) ∧ Hid (WrA wc base p (xs ++ stT it word (l.take j) 0)) ∧ Hid (KT base p w wc))
      case first =>
        go_region_with (go_at_call 37; refine (HNU7.out _ (by first | exact below_drew1 _ | exact bl_drew (below_alloc _) | exact bl_alloc (below_drew1 _) _)).mono ?_; rintro e w1 ⟨rfl, hb1⟩; have hbV : Below V.heap.size V w1 := (by first | exact bl_then (below_drew1 _) hb1 | exact bl_then (bl_drew (below_alloc _)) hb1 | exact bl_then (bl_alloc (below_drew1 _) _) hb1); try (have bq : Blk w1 V.heap.size 56 #[.int .i64 0, .string ⟨#[]⟩, .int .i64 0] := (by first | exact ((Blk.new V _ _).kept (below_drew1 _)).kept hb1 | exact (Blk.newAt (w := V.drew) rfl).kept hb1); have xq := bq.cellF; have yq := bq.frz; have zq := bq.lt))
        all_goals go_wp2_with fail
        all_goals go_meet
        · exact ⟨_, rfl, rfl, hid (by have h1 := HP.out; have h2 := HB.out; have h3 := HK7.out.kp.size; have h4 := hbV.size; omega), hid (Blk.newAt rfl), hid ((B7.out.kept hbV).kept (below_alloc _)), hid ((HV7.out.kept hbV).kept (below_alloc _)), hid (HK7.out.trans (KT.below (bl_alloc hbV _)))⟩
        all_goals exact ⟨_, rfl, rfl, hid (by have h1 := HP.out; have h2 := HB.out; have h3 := HK7.out.kp.size; omega), hid (Blk.is (((bq.set 0 _).set 1 _).set 2 _) (by simp)), hid (B7.out.kept (by exact blBy)), hid (HV7.out.kept (by exact blBy)), hid (HK7.out.trans (KT.below (by exact blBy)))⟩
      case rest =>
        obtain ⟨q, rfl, rfl, HQP, B8, B7', HV8, HK8⟩ := hcut
        clear B7 HV7 HK7 HNU7 x7 z7
        have x7 := B7'.out.cellF
        have z7 := B7'.out.lt
        have x8 := B8.out.cellF
        have z8 := B8.out.lt
        go_upto_region 4 with fail
        have HP7 : Hid (p7 ≠ p) := hid (by intro e; obtain ⟨a1, v1, hB1, _, _⟩ := HV8.out; have h1 := B7'.out; rw [e] at h1; have h2 := (show wc.heap[p]? = _ from hB1).symm.trans (show wc.heap[p]? = _ from h1); cases h2)
        have HNML : Hid (nm.length ≤ 7) := hid (by rw [← HNM.out]; exact (opN_ok _).1)
        have HITL := hid (hi.len (j : Int))
        have e1 := HE1.out
        have e2 : strOfNums ([32, 32] ++ word) ++ (⟨#[32]⟩ : ByteArray) = strOfNums ([32, 32] ++ word ++ [32]) := str_add _ [32]
        have e3 : strOfNums ([32, 32] ++ word ++ [32]) ++ strOfNums (it (j : Int)) = strOfNums ([32, 32] ++ word ++ [32] ++ it (j : Int)) := str_add _ _
        have e4 : strOfNums ([32, 32] ++ word ++ [32] ++ it (j : Int)) ++ (⟨#[32]⟩ : ByteArray) = strOfNums ([32, 32] ++ word ++ [32] ++ it (j : Int) ++ [32]) := str_add _ [32]
        have e5 : strOfNums ([32, 32] ++ word ++ [32] ++ it (j : Int) ++ [32]) ++ strOfNums nm = strOfNums ([32, 32] ++ word ++ [32] ++ it (j : Int) ++ [32] ++ nm) := str_add _ _
        have f1 : (strOfNums ([32, 32] ++ word)).size ≤ 5 := by rw [strOfNums_size]; simp only [List.length_append, List.length_cons, List.length_nil]; omega
        have f2 : (strOfNums ([32, 32] ++ word ++ [32])).size ≤ 6 := by rw [strOfNums_size]; simp only [List.length_append, List.length_cons, List.length_nil]; omega
        have f3 : (strOfNums ([32, 32] ++ word ++ [32] ++ it (j : Int))).size ≤ 26 := by have := HITL.out; rw [strOfNums_size]; simp only [List.length_append, List.length_cons, List.length_nil]; omega
        have f4 : (strOfNums ([32, 32] ++ word ++ [32] ++ it (j : Int) ++ [32])).size ≤ 27 := by have := HITL.out; rw [strOfNums_size]; simp only [List.length_append, List.length_cons, List.length_nil]; omega
        have HTX : Hid (stH it word j ⟨(k : Int) + 1, a, b, c, d⟩ = [32, 32] ++ word ++ [32] ++ it (j : Int) ++ [32] ++ nm) := hid (by unfold stH; rw [HNM.out])
        have f6 : (strOfNums (it (j : Int))).size ≤ 20 := by have := HITL.out; rw [strOfNums_size]; omega
        have f7 : (strOfNums nm).size ≤ 7 := by have := HNML.out; rw [strOfNums_size]; omega
        have f0 := HF0.out
        have eh : strOfNums ([32, 32] ++ word ++ [32] ++ it (j : Int) ++ [32] ++ nm) = strOfNums (stH it word j ⟨(k : Int) + 1, a, b, c, d⟩) := by rw [HTX.out]
        rw [eh] at e5
        have HIJ := hid fun W0 (hW : KT base p w W0) => HIT.out W0 hW _ HPI.out
        unfold ItoaOk at HIJ
        clear eh HTX
        generalize strOfNums ([32, 32] ++ word) = s1 at *
        generalize strOfNums ([32, 32] ++ word ++ [32]) = s2 at *
        generalize strOfNums (it (j : Int)) = si at *
        generalize strOfNums ([32, 32] ++ word ++ [32] ++ it (j : Int)) = s3 at *
        generalize strOfNums ([32, 32] ++ word ++ [32] ++ it (j : Int) ++ [32]) = s4 at *
        generalize strOfNums nm = sn at *
        have m0 : ¬ 9223372036854775807 < 2 + sw.size := by omega
        have i0 : ¬ (9223372036854775807 : Int) < 2 + (sw.size : Int) := by omega
        have m1 : ¬ 9223372036854775807 < s1.size + 1 := by omega
        have i1 : ¬ (9223372036854775807 : Int) < (s1.size : Int) + 1 := by omega
        have m2 : ¬ 9223372036854775807 < s2.size + si.size := by omega
        have i2 : ¬ (9223372036854775807 : Int) < (s2.size : Int) + (si.size : Int) := by omega
        have m3 : ¬ 9223372036854775807 < s3.size + 1 := by omega
        have i3 : ¬ (9223372036854775807 : Int) < (s3.size : Int) + 1 := by omega
        have m4 : ¬ 9223372036854775807 < s4.size + sn.size := by omega
        have i4 : ¬ (9223372036854775807 : Int) < (s4.size : Int) + (sn.size : Int) := by omega
        refine wp_region_held_drew (S := (fun W0 => (∀ k_1, W0.cell? ⟨p7, k_1, none⟩ = #[.int .i64 ((k : Int) + 1), .int .i64 a, .int .i64 b, .int .i64 c, .int .i64 d][k_1]?) ∧ (∀ k_1, W0.cell? ⟨q, k_1, none⟩ = #[.int .i64 ((k : Int) + 1), .string sn, .int .i64 (ct : Int)][k_1]?))) (by kernel_rfl) ?_ (fun hHeld => ?_)
        · exact ⟨(B7'.out.kept (below_drew1 _)).cellF, (B8.out.kept (below_drew1 _)).cellF⟩
        refine wpAnyH_take (i := 0) (v := ?_) rfl (by kernel_rfl) (by kernel_rfl) (by kernel_rfl) (fun _ _ _ h => h) (Or.inl ⟨by rfl, ?_⟩) (by assumption) ?_
        rotate_left
        · (intro w hSw; (try dsimp only at hSw); go_simp; (try with_reducible rfl))
        try simp only [Act.put, List.getElem_toArray, List.getElem_cons_succ, List.getElem_cons_zero, List.setIfInBounds_toArray, List.set_cons_zero, List.set_cons_succ]
        refine wpAnyH_take (i := 1) (v := ?_) rfl (by kernel_rfl) (by kernel_rfl) (by kernel_rfl) (fun _ _ _ h => h) (Or.inl ⟨by rfl, ?_⟩) (by assumption) ?_
        rotate_left
        · (intro w hSw; (try dsimp only at hSw); go_simp; (try with_reducible rfl))
        try simp only [Act.put, List.getElem_toArray, List.getElem_cons_succ, List.getElem_cons_zero, List.setIfInBounds_toArray, List.set_cons_zero, List.set_cons_succ]
        refine wpAnyH_take (i := 2) (v := ?_) rfl (by kernel_rfl) (by kernel_rfl) (by kernel_rfl) (fun _ _ _ h => h) (Or.inl ⟨by rfl, ?_⟩) (by assumption) ?_
        rotate_left
        · (intro w hSw; (try dsimp only at hSw); go_simp; (try with_reducible rfl))
        try simp only [Act.put, List.getElem_toArray, List.getElem_cons_succ, List.getElem_cons_zero, List.setIfInBounds_toArray, List.set_cons_zero, List.set_cons_succ]
        refine wpAnyH_take (i := 3) (v := ?_) rfl (by kernel_rfl) (by kernel_rfl) (by kernel_rfl) (fun _ _ _ h => h) (Or.inl ⟨by rfl, ?_⟩) (by assumption) ?_
        rotate_left
        · (intro w hSw; (try dsimp only at hSw); go_simp; (try with_reducible rfl))
        try simp only [Act.put, List.getElem_toArray, List.getElem_cons_succ, List.getElem_cons_zero, List.setIfInBounds_toArray, List.set_cons_zero, List.set_cons_succ]
        refine wpAnyH_take (i := 4) (v := ?_) rfl (by kernel_rfl) (by kernel_rfl) (by kernel_rfl) (fun _ _ _ h => h) (Or.inl ⟨by rfl, ?_⟩) (by assumption) ?_
        rotate_left
        · (intro w hSw; (try dsimp only at hSw); go_simp; (try with_reducible rfl))
        try simp only [Act.put, List.getElem_toArray, List.getElem_cons_succ, List.getElem_cons_zero, List.setIfInBounds_toArray, List.set_cons_zero, List.set_cons_succ]
        refine wpAnyH_take (i := 8) (v := ?_) rfl (by kernel_rfl) (by kernel_rfl) (by kernel_rfl) (fun _ _ _ h => h) (Or.inl ⟨by rfl, ?_⟩) (by assumption) ?_
        rotate_left
        · (intro w hSw; (try dsimp only at hSw); go_simp; (try with_reducible rfl))
        try simp only [Act.put, List.getElem_toArray, List.getElem_cons_succ, List.getElem_cons_zero, List.setIfInBounds_toArray, List.set_cons_zero, List.set_cons_succ]
        refine wpAnyH_take (i := 9) (v := ?_) rfl (by kernel_rfl) (by kernel_rfl) (by kernel_rfl) (fun _ _ _ h => h) (Or.inl ⟨by rfl, ?_⟩) (by assumption) ?_
        rotate_left
        · (intro w hSw; (try dsimp only at hSw); go_simp; (try with_reducible rfl))
        try simp only [Act.put, List.getElem_toArray, List.getElem_cons_succ, List.getElem_cons_zero, List.setIfInBounds_toArray, List.set_cons_zero, List.set_cons_succ]
        refine wpAnyH_take (i := 11) (v := ?_) rfl (by kernel_rfl) (by kernel_rfl) (by kernel_rfl) (fun _ _ _ h => h) (Or.inl ⟨by rfl, ?_⟩) (by assumption) ?_
        rotate_left
        · (intro w hSw; (try dsimp only at hSw); go_simp; (try with_reducible rfl))
        try simp only [Act.put, List.getElem_toArray, List.getElem_cons_succ, List.getElem_cons_zero, List.setIfInBounds_toArray, List.set_cons_zero, List.set_cons_succ]
        refine wpAnyH_take (i := 12) (v := ?_) rfl (by kernel_rfl) (by kernel_rfl) (by kernel_rfl) (fun _ _ _ h => h) (Or.inl ⟨by rfl, ?_⟩) (by assumption) ?_
        rotate_left
        · (intro w hSw; (try dsimp only at hSw); go_simp; (try with_reducible rfl))
        try simp only [Act.put, List.getElem_toArray, List.getElem_cons_succ, List.getElem_cons_zero, List.setIfInBounds_toArray, List.set_cons_zero, List.set_cons_succ]
        refine wpAnyH_ready (rs := [5]) (by kernel_rfl) (by simp) ?_
        refine AllReadyH.cons rfl (fun K hK => ?_) ?_
        · go_simp
          refine (HIJ.out _ (HK8.out.trans (KT.below (below_drew1 _)))).mono ?_
          rintro e w2 ⟨rfl, hb2⟩
          dsimp only
          have B7a := hid ((B7'.out.kept (below_drew1 _)).kept hb2)
          have B8a := hid ((B8.out.kept (below_drew1 _)).kept hb2)
          have HVa := hid ((HV8.out.kept (below_drew1 _)).kept hb2)
          have HKa : Hid (KT base p w w2) := hid (HK8.out.trans (KT.below (bl_then (below_drew1 _) hb2)))
          try simp only [Act.put, List.getElem_toArray, List.getElem_cons_succ, List.getElem_cons_zero, List.setIfInBounds_toArray, List.set_cons_zero, List.set_cons_succ]
          refine hK.out _ _ ?_ (fun hHeld => ?_)
          · exact ⟨B7a.out.cellF, B8a.out.cellF⟩
          clear hK K
          try simp only [Act.put, List.getElem_toArray, List.getElem_cons_succ, List.getElem_cons_zero, List.setIfInBounds_toArray, List.set_cons_zero, List.set_cons_succ]
          refine wpAnyH_take (i := 6) (v := ?_) rfl (by kernel_rfl) (by kernel_rfl) (by kernel_rfl) (fun _ _ _ h => h) (Or.inl ⟨by rfl, ?_⟩) (by assumption) ?_
          rotate_left
          · (intro w hSw; (try dsimp only at hSw); go_simp; (try with_reducible rfl))
          try simp only [Act.put, List.getElem_toArray, List.getElem_cons_succ, List.getElem_cons_zero, List.setIfInBounds_toArray, List.set_cons_zero, List.set_cons_succ]
          refine wpAnyH_take (i := 7) (v := ?_) rfl (by kernel_rfl) (by kernel_rfl) (by kernel_rfl) (fun _ _ _ h => h) (Or.inl ⟨by rfl, ?_⟩) (by assumption) ?_
          rotate_left
          · (intro w hSw; (try dsimp only at hSw); go_simp; (try with_reducible rfl))
          try simp only [Act.put, List.getElem_toArray, List.getElem_cons_succ, List.getElem_cons_zero, List.setIfInBounds_toArray, List.set_cons_zero, List.set_cons_succ]
          refine wpAnyH_take (i := 10) (v := ?_) rfl (by kernel_rfl) (by kernel_rfl) (by kernel_rfl) (fun _ _ _ h => h) (Or.inl ⟨by rfl, ?_⟩) (by assumption) ?_
          rotate_left
          · (intro w hSw; (try dsimp only at hSw); go_simp; (try with_reducible rfl))
          try simp only [Act.put, List.getElem_toArray, List.getElem_cons_succ, List.getElem_cons_zero, List.setIfInBounds_toArray, List.set_cons_zero, List.set_cons_succ]
          refine wpAnyH_ready (rs := [13]) (by kernel_rfl) (by simp) ?_
          refine AllReadyH.cons rfl (fun K hK => ?_) ?_
          · have HNB := hid (numbersT w2 (.int .i64 ((k : Int) + 1)) (.string sn) ct HC4.out ⟨(k : Int) + 1, a, b, c, d⟩)
            unfold vIN at HNB
            go_simp
            refine HNB.out.mono ?_
            rintro e w3 ⟨nb, rfl, hnb, hnz, hb3⟩
            dsimp only
            have HVb := hid (HVa.out.kept hb3)
            have HKb : Hid (KT base p w w3) := hid (HKa.out.trans (KT.below hb3))
            have B7b := hid (B7a.out.kept hb3)
            have B8b := hid (B8a.out.kept hb3)
            have HLE : Hid (((insN ⟨(k : Int) + 1, a, b, c, d⟩).take ct).length = ct) := hid (by rw [List.length_take]; have := HC4.out; simp [insN]; omega)
            have hnp : nb ≠ p := by have h1 := HVa.out.cells.1; omega
            have HLI := hid (lineT it hi w3 base p _ (stH it word j ⟨(k : Int) + 1, a, b, c, d⟩) ((insN ⟨(k : Int) + 1, a, b, c, d⟩).take ct) HVb.out HP.out (by have h1 := HB.out; have h2 := HKb.out.kp.size; omega) HHB.out (some ⟨nb, 0, none⟩) 4 (fun W0 hW => RowS.weak (arr4_row ⟨(k : Int) + 1, a, b, c, d⟩ ct HC4.out (hW.bl nb _ _ hnp (by decide) hnb)) (fun _ _ => trivial)) (fun W0 hW n hn => HIT.out W0 (HKb.out.trans hW) n (HPX.out n (List.mem_of_mem_take hn))) (by have h1 := HLN.out; have h2 := HHL.out; have h3 := HLE.out; have h4 := HC4.out; omega))
            rw [HLE.out] at HLI
            clear hnb hnz hb3 HNB hnp HLE B7a B8a HVa HKa hb2
            try simp only [Act.put, List.getElem_toArray, List.getElem_cons_succ, List.getElem_cons_zero, List.setIfInBounds_toArray, List.set_cons_zero, List.set_cons_succ]
            refine hK.out _ _ ?_ (fun hHeld => ?_)
            · exact ⟨B7b.out.cellF, B8b.out.cellF⟩
            clear hK K
            try simp only [Act.put, List.getElem_toArray, List.getElem_cons_succ, List.getElem_cons_zero, List.setIfInBounds_toArray, List.set_cons_zero, List.set_cons_succ]
            refine wpAnyH_ready (rs := [14]) (by kernel_rfl) (by simp) ?_
            refine AllReadyH.cons rfl (fun K hK => ?_) ?_
            · go_simp
              refine HLI.out.mono ?_
              rintro e w4 ⟨rfl, hv4, hk4⟩
              dsimp only
              have HV4 : Hid (WrA w4 base p (xs ++ stT it word (l.take (j + 1)) 0)) := hid (by rw [HSN.out, HCT.out, ← List.append_assoc]; exact hv4)
              have HK4 : Hid (KT base p w w4) := hid (HKb.out.trans hk4)
              have B7d := hid (hk4.bl p7 _ _ HP7.out (by decide) B7b.out)
              have B8d := hid (hk4.bl q _ _ HQP.out (by decide) B8b.out)
              clear hv4 hk4 HLI HVb HKb B7b B8b
              try simp only [Act.put, List.getElem_toArray, List.getElem_cons_succ, List.getElem_cons_zero, List.setIfInBounds_toArray, List.set_cons_zero, List.set_cons_succ]
              refine hK.out _ _ ?_ (fun hHeld => ?_)
              · exact ⟨B7d.out.cellF, B8d.out.cellF⟩
              clear hK K
              try simp only [Act.put, List.getElem_toArray, List.getElem_cons_succ, List.getElem_cons_zero, List.setIfInBounds_toArray, List.set_cons_zero, List.set_cons_succ]
              refine wpAnyH_done (by kernel_rfl) ?_ _
              go_wp2
              exact ⟨⟨j + 1, by simp, by omega, HV4, HK4⟩, by simp [numAt]; omega⟩
            exact AllReadyH.nil
          exact AllReadyH.nil
        exact AllReadyH.nil
    · have h2 : ¬ (j : Int) < (l.length : Int) := by omega
      obtain rfl : j = l.length := by omega
      rw [List.take_length] at HV
      go_wp2
      go_end0
      exact ⟨rfl, HV.out, HK.out⟩
end Go.Proofs.YtpndejibjiojbaaDoor
namespace Go.Proofs.YtpndejibjiojbaaDoor
open Go.RowKit
set_option maxRecDepth 1000000
set_option linter.unusedVariables false
set_option linter.unusedSimpArgs false
set_option maxHeartbeats 4000000
def rwT (it : Int → List Int) (l : List LN) : List Int := l.flatMap (fun r => lnT it [32, 32, 114, 111, 119] [r.tag, r.pl])
/-- A block's lines. -/
def bkT (it : Int → List Int) (i : Nat) (k : BK) : List Int := lnT it [98, 108, 111, 99, 107] [(i : Int)] ++ stT it [100, 101, 99] k.dec 0 ++ stT it [101, 110, 99] k.enc 0 ++ rwT it k.rows
/-- A program's text. -/
def txB (it : Int → List Int) : List BV → Nat → List Int
  | [], _ => []
  | x :: l, i => bkT it i x.k ++ txB it l (i + 1)
theorem txB_app (it : Int → List Int) : ∀ (a b : List BV) (j : Nat), txB it (a ++ b) j = txB it a j ++ txB it b (j + a.length)
  | [], b, j => by simp [txB]
  | s :: a, b, j => by
    rw [List.cons_append, txB, txB, txB_app it a b (j + 1), List.append_assoc, List.length_cons]
    congr 3
    omega
theorem txB_snoc (it : Int → List Int) (l : List BV) (j : Nat) (h : j < l.length) : txB it (l.take (j + 1)) 0 = txB it (l.take j) 0 ++ bkT it j l[j].k := by
  rw [List.take_add_one, List.getElem?_eq_getElem h, txB_app]
  simp only [Option.toList_some, txB, List.append_nil, List.length_take, Nat.zero_add]
  rw [show min j l.length = j by omega]
def bkM (k : BK) : Nat := 27 + 119 * (k.dec.length + k.enc.length) + 48 * k.rows.length
def txN : List BV → Nat
  | [] => 0
  | x :: l => bkM x.k + txN l
theorem lnT_len {it : Int → List Int} (hi : ItP it) (s ns : List Int) : (lnT it s ns).length ≤ s.length + 21 * ns.length + 1 := by
  have := nmT_len hi ns
  unfold lnT
  simp only [List.length_append, List.length_cons, List.length_nil]
  omega
theorem rwT_len {it : Int → List Int} (hi : ItP it) (l : List LN) : (rwT it l).length ≤ 48 * l.length := by
  induction l with
  | nil => exact Nat.le_refl _
  | cons r l ih =>
    have := lnT_len hi [32, 32, 114, 111, 119] [r.tag, r.pl]
    unfold rwT at ih ⊢
    simp only [List.length_cons, List.length_nil] at this
    rw [List.flatMap_cons, List.length_append, List.length_cons]
    omega
theorem rwT_snoc (it : Int → List Int) (l : List LN) (j : Nat) (h : j < l.length) : rwT it (l.take (j + 1)) = rwT it (l.take j) ++ lnT it [32, 32, 114, 111, 119] [l[j].tag, l[j].pl] := by
  unfold rwT
  rw [List.take_add_one, List.getElem?_eq_getElem h, List.flatMap_append]
  simp
theorem bkT_len {it : Int → List Int} (hi : ItP it) (i : Nat) (k : BK) : (bkT it i k).length ≤ bkM k := by
  have h1 := lnT_len hi [98, 108, 111, 99, 107] [(i : Int)]
  have h2 := stT_len hi [100, 101, 99] (by decide) k.dec 0
  have h3 := stT_len hi [101, 110, 99] (by decide) k.enc 0
  have h4 := rwT_len hi k.rows
  unfold bkT bkM
  simp only [List.length_append, List.length_cons, List.length_nil] at h1 ⊢
  omega
theorem txN_take {it : Int → List Int} (hi : ItP it) : ∀ (bs : List BV) (j i : Nat) (h : j < bs.length), (txB it (bs.take j) i).length + bkM bs[j].k ≤ txN bs
  | [], j, i, h => by simp at h
  | x :: l, 0, i, h => by simp [txB, txN]
  | x :: l, j + 1, i, h => by
    have h1 := txN_take hi l j (i + 1) (by simpa using h)
    have h2 := bkT_len hi i x.k
    simp only [List.take_succ_cons, txB, List.length_append, List.getElem_cons_succ, txN]
    omega
theorem cellK {f : Nat → Prop} {w w' : World} (g : Keep f w w') {b i : Nat} {v : Value} (h : w.cell? ⟨b, i, none⟩ = some v) (hf : f b) : w'.cell? ⟨b, i, none⟩ = some v := by
  have hlt := World.block_lt_of_cell? _ _ h
  unfold World.cell? at h ⊢
  rw [g.block b hlt hf]
  exact h
theorem lnT_bd {it : Int → List Int} (hi : ItP it) (s ns : List Int) (hs : ∀ c ∈ s, 0 ≤ c ∧ c ≤ 255) : ∀ c ∈ lnT it s ns, 0 ≤ c ∧ c ≤ 255 := by
  intro c hc
  unfold lnT nmT at hc
  simp only [List.mem_append, List.mem_flatMap, List.mem_cons, List.not_mem_nil, or_false] at hc
  rcases hc with (h | ⟨n, _, h | h⟩) | h
  · exact hs c h
  · omega
  · exact hi.bd n c h
  · omega
theorem stT_bd {it : Int → List Int} (hi : ItP it) (word : List Int) (hw : ∀ c ∈ word, 0 ≤ c ∧ c ≤ 255) : ∀ (l : List IN) (j : Nat), ∀ c ∈ stT it word l j, 0 ≤ c ∧ c ≤ 255
  | [], j, c, hc => by simp [stT] at hc
  | s :: l, j, c, hc => by
    rw [stT, List.mem_append] at hc
    rcases hc with h | h
    · exact lnT_bd hi _ _ (stH_bd hi word hw j s) c h
    · exact stT_bd hi word hw l (j + 1) c h
theorem bkT_bd {it : Int → List Int} (hi : ItP it) (i : Nat) (k : BK) : ∀ c ∈ bkT it i k, 0 ≤ c ∧ c ≤ 255 := by
  intro c hc
  unfold bkT rwT at hc
  simp only [List.mem_append, List.mem_flatMap] at hc
  rcases hc with ((h | h) | h) | ⟨r, _, h⟩
  · exact lnT_bd hi _ _ (by decide) c h
  · exact stT_bd hi _ (by decide) _ _ c h
  · exact stT_bd hi _ (by decide) _ _ c h
  · exact lnT_bd hi _ _ (by decide) c h
theorem txB_bd {it : Int → List Int} (hi : ItP it) : ∀ (bs : List BV) (i : Nat), ∀ c ∈ txB it bs i, 0 ≤ c ∧ c ≤ 255
  | [], i, c, hc => by simp [txB] at hc
  | x :: l, i, c, hc => by
    rw [txB, List.mem_append] at hc
    rcases hc with h | h
    · exact bkT_bd hi i x.k c h
    · exact txB_bd hi l (i + 1) c h
theorem txB_ne (it : Int → List Int) (bs : List BV) (i : Nat) (h : bs ≠ []) : txB it bs i ≠ [] := by
  cases bs with
  | nil => exact absurd rfl h
  | cons x l =>
    rw [txB]
    unfold bkT lnT
    simp
/-- Numbers that Itoa is asked for. -/
structure BkP (P : Int → Prop) (k : BK) : Prop where
  dj : ∀ j : Nat, j < k.dec.length → P (j : Int)
  ej : ∀ j : Nat, j < k.enc.length → P (j : Int)
  dn : ∀ s ∈ k.dec, ∀ x ∈ insN s, P x
  en : ∀ s ∈ k.enc, ∀ x ∈ insN s, P x
  rn : ∀ r ∈ k.rows, P r.tag ∧ P r.pl
theorem wrZero {A : Array Value} (hA : A = opAll.toArray) : Array.foldl (fun cs x => cs.setIfInBounds x.snd x.fst) Tryd.zeroCells75 A.zipIdx 0 75 = wrC none (.slice none 0 0) := by
  rw [hA]
  kernel_rfl
theorem wrStore {B : Array Value} (hB : B = wrC none (.slice none 0 0)) (w : World) : (storeCells ⟨w.heap.size, 0, none⟩ B.toList 0).run Tryd.prog (w.alloc (.cells Tryd.zeroCells75 75)) = .ok () (w.alloc (.cells B 75)) := by
  rw [hB]
  exact run_storeCells_new (P := Tryd.prog) w 75 Tryd.zeroCells75 (wrC none (.slice none 0 0)) (by kernel_rfl) (by kernel_rfl) (by kernel_rfl)
theorem textOfT (it : Int → List Int) (hi : ItP it) (w : World) (bs : List BV) (ba : Option Addr) (bc : Nat) (hp : PgR w (.slice ba bs.length bc) bs) (hw : ∀ x ∈ bs, BkW x.k) (P : Int → Prop) (hit : ∀ W0, Keep (fun b => b < w.heap.size) w W0 → ∀ n, P n → ItoaOk it W0 n) (hPi : ∀ i : Nat, i < bs.length → P (i : Int)) (hPk : ∀ x ∈ bs, BkP P x.k) (hl : txN bs ≤ 140737488355328) (h0 : bs ≠ []) :
    Calls Tryd.prog 15 #[.agg #[.slice ba bs.length bc]] w fun e w' => e = .returned (.string (strOfNums (txB it bs 0))) ∧ Below w.heap.size w w' := by
  obtain ⟨_, _, e, hln⟩ := rowS_sl hp.row
  clear e
  have n63 : (bs.length : Int) ≤ 9223372036854775807 := by omega
  have HP := hid hp
  have HW := hid hw
  have HL := hid hl
  have HIT := hid hit
  have HPI := hid hPi
  have HPK := hid hPk
  clear hp hw hl hit hPi hPk
  go_enter Tryd.func15, Tryd.ntmps15
  go_wp2_with fail
  refine (allOps _).mono ?_
  rintro e w1 ⟨A, rfl, HA, hb1⟩
  have a75 : A.size = 75 := by rw [HA.out]; simp [opAll_len]
  have hfl := wrZero HA.out
  obtain ⟨B, HBB⟩ : ∃ B, Hid (B = wrC none (.slice none 0 0)) := ⟨_, hid rfl⟩
  rw [← HBB.out] at hfl
  have b77 : B.size = 77 := by rw [HBB.out, wrC_size]
  have HST := hid fun W0 => wrStore HBB.out W0
  go_wp2_with fail
  rw [HST.out]
  simp only [Result.andThen]
  rw [Oper.upon_skip]
  have B1 : Hid (Blk (w1.alloc (.cells B 75)) w.heap.size 24 #[.slice ba bs.length bc]) := hid (((Blk.newAt rfl).kept hb1).kept (below_alloc _))
  have HV0 : Hid (WrA (w1.alloc (.cells B 75)) (w1.heap.size + 1) w1.heap.size []) := hid ⟨none, .slice none 0 0, by rw [HBB.out]; exact Blk.new _ _ _, World.ownsRow_nil _ _ _ _, .inl rfl⟩
  have HB1 : Hid (Below w.heap.size w (w1.alloc (.cells B 75))) := hid (bl_alloc (bl_then (below_alloc _) hb1) _)
  have HSZ : Hid (w1.heap.size + 1 ≤ (w1.alloc (.cells B 75)).heap.size ∧ w.heap.size < w1.heap.size) := hid ⟨by simp, by have := hb1.size; simp at this; omega⟩
  clear HST a75 HA hb1 hfl b77 HBB
  generalize w1.alloc (.cells B 75) = V at *
  generalize w1.heap.size = p at *
  have HOL : Hid (∀ W0, KT (p + 1) p V W0 → Keep (fun b => b < w.heap.size) w W0) := hid (fun W0 hW => (Keep.ofBelow HB1.out).trans (hW.kp.weak (fun k hk => ⟨by have := HSZ.out; omega, by have := HSZ.out; omega⟩)))
  have x1 := B1.out.cellF
  have z1 := B1.out.lt
  go_wp2
  go_loopw [13] (fun s13 wr => ∃ j : Nat, s13 = .int .i64 (j : Int) ∧ j ≤ bs.length ∧ Hid (WrA wr (p + 1) p (txB it (bs.take j) 0)) ∧ Hid (KT (p + 1) p V wr)) (fun s13 wr => bs.length - numAt wr s13)
  case atStart => exact ⟨0, rfl, by omega, hid (by simpa [txB] using HV0.out), hid (KT.refl _ _ _)⟩
  case round =>
    obtain ⟨j, rfl, hj, HV, HK⟩ := hrel
    clear HV0 B1 x1 z1
    by_cases hlt : j < bs.length
    · have h2 : (j : Int) < (bs.length : Int) := by omega
      obtain ⟨b, o, da, dc, ea, ec, ra, rc, eb, hbl, c0, c1, c2, hk⟩ := pg_at HP.out hlt
      subst eb
      have HKD := hid fun W0 (hW : KT (p + 1) p V W0) => RowS.weak (RowS.keep (rowOldP (by decide) hk.hd) (HOL.out W0 hW) (fun _ h => h)) (Z' := AnyZ) (fun _ _ => trivial)
      have HKE := hid fun W0 (hW : KT (p + 1) p V W0) => RowS.weak (RowS.keep (rowOldP (by decide) hk.he) (HOL.out W0 hW) (fun _ h => h)) (Z' := AnyZ) (fun _ _ => trivial)
      have HKR := hid fun W0 (hW : KT (p + 1) p V W0) => RowS.weak (RowS.keep (rowOldP (by decide) hk.hr) (HOL.out W0 hW) (fun _ h => h)) (Z' := AnyZ) (fun _ _ => trivial)
      obtain ⟨_, _, e, hrl⟩ := rowS_sl hk.hr
      clear e
      have HKW := hid (HW.out bs[j] (List.getElem_mem hlt))
      have HKP := hid (HPK.out bs[j] (List.getElem_mem hlt))
      have HPJ := hid (HPI.out j hlt)
      have HLN := hid (Nat.le_trans (txN_take hi bs j 0 hlt) HL.out)
      have HTK := hid (txB_snoc it bs j hlt)
      replace c0 := cellK (HOL.out _ HK.out) c0 hbl
      replace c1 := cellK (HOL.out _ HK.out) c1 hbl
      replace c2 := cellK (HOL.out _ HK.out) c2 hbl
      have hbl2 : b < wr.heap.size := World.block_lt_of_cell? _ _ c0
      clear hk hbl
      generalize bs[j].k = K at *
      generalize txB it (bs.take j) 0 = X at *
      have r63 : (K.rows.length : Int) ≤ 9223372036854775807 := by omega
      have HPW : Hid (p + 1 ≤ wr.heap.size) := hid (by have h1 := HSZ.out.1; have h2 := HK.out.kp.size; omega)
      go_upto_region 5 with fail
      have B5 : Hid (Blk (wr.alloc (.cells #[.slice da K.dec.length dc, .slice ea K.enc.length ec, .slice ra K.rows.length rc] 35)) wr.heap.size 35 #[.slice da K.dec.length dc, .slice ea K.enc.length ec, .slice ra K.rows.length rc]) := hid (Blk.new _ _ _)
      have HVa := hid (HV.out.kept (below_alloc (w := wr) (.cells #[.slice da K.dec.length dc, .slice ea K.enc.length ec, .slice ra K.rows.length rc] 35)))
      have HKa : Hid (KT (p + 1) p V (wr.alloc (.cells #[.slice da K.dec.length dc, .slice ea K.enc.length ec, .slice ra K.rows.length rc] 35))) := hid (HK.out.trans (KT.below (below_alloc _)))
      have H5P : Hid (wr.heap.size ≠ p) := hid (by have := HPW.out; omega)
      replace HPW : Hid (p + 1 ≤ (wr.alloc (.cells #[.slice da K.dec.length dc, .slice ea K.enc.length ec, .slice ra K.rows.length rc] 35)).heap.size) := hid (by have := HPW.out; simp; omega)
      clear HV HK c0 c1 c2 hbl2
      generalize wr.alloc (.cells #[.slice da K.dec.length dc, .slice ea K.enc.length ec, .slice ra K.rows.length rc] 35) = U at *
      generalize wr.heap.size = p5 at *
      have BN : Hid (Blk (U.alloc (.cells #[.int .i64 (j : Int)] 3)) U.heap.size 3 ([(j : Int)].map (Value.int .i64)).toArray) := hid (Blk.new _ _ _)
      have HLA := hid (lineT it hi (U.alloc (.cells #[.int .i64 (j : Int)] 3)) (p + 1) p X [98, 108, 111, 99, 107] [(j : Int)] (HVa.out.kept (below_alloc _)) (by omega) (by have := HPW.out; simp; omega) (by decide) (some ⟨U.heap.size, 0, none⟩) 1 (fun W0 hW => RowS.weak (intsRow _ (by simp) (hW.bl U.heap.size 3 _ (by have := HPW.out; omega) (by decide) BN.out)) (fun _ _ => trivial)) (fun W0 hW n hn => HIT.out W0 (HOL.out W0 (HKa.out.trans ((KT.below (below_alloc _)).trans hW))) n (by simp at hn; subst hn; exact HPJ.out)) (by have h1 := HLN.out; unfold bkM at h1; simp only [List.length_cons, List.length_nil]; omega))
      rw [show strOfNums [98, 108, 111, 99, 107] = (⟨#[98, 108, 111, 99, 107]⟩ : ByteArray) from rfl] at HLA
      clear BN
      go_wp2_with fail
      refine HLA.out.mono ?_
      rintro e w2 ⟨rfl, hv2, hk2⟩
      have HV2 := hid hv2
      have HK2 : Hid (KT (p + 1) p V w2) := hid (HKa.out.trans ((KT.below (below_alloc _)).trans hk2))
      have B5a := hid (hk2.bl p5 _ _ H5P.out (by decide) (B5.out.kept (below_alloc _)))
      have HS2 : Hid (p + 1 ≤ w2.heap.size) := hid (by have h1 := HSZ.out.1; have h2 := HK2.out.kp.size; omega)
      clear hv2 hk2 HLA HVa HKa B5 HPW
      have x5 := B5a.out.cellF
      have z5 := B5a.out.lt
      have L1 := lnT_len hi [98, 108, 111, 99, 107] [(j : Int)]
      simp only [List.length_cons, List.length_nil] at L1
      have HLA := hid (wstepsT it hi w2 (p + 1) p _ [100, 101, 99] (by decide) (by decide) HV2.out (by omega) HS2.out K.dec da dc (fun W0 hW => HKD.out W0 (HK2.out.trans hW)) HKW.out.dec P (fun W0 hW n hn => HIT.out W0 (HOL.out W0 (HK2.out.trans hW)) n hn) HKP.out.dj HKP.out.dn (by have h1 := HLN.out; unfold bkM at h1; rw [List.length_append]; omega))
      rw [show strOfNums [100, 101, 99] = (⟨#[100, 101, 99]⟩ : ByteArray) from rfl] at HLA
      go_wp2_with fail
      refine HLA.out.mono ?_
      rintro e w3 ⟨rfl, hv3, hk3⟩
      have HV3 := hid hv3
      have HK3 : Hid (KT (p + 1) p V w3) := hid (HK2.out.trans hk3)
      have B5b := hid (hk3.bl p5 _ _ H5P.out (by decide) B5a.out)
      have HS3 : Hid (p + 1 ≤ w3.heap.size) := hid (by have h1 := HSZ.out.1; have h2 := HK3.out.kp.size; omega)
      clear hv3 hk3 HLA HV2 HK2 B5a x5 z5 HS2
      have x5 := B5b.out.cellF
      have z5 := B5b.out.lt
      have L2 := stT_len hi [100, 101, 99] (by decide) K.dec 0
      have HLA := hid (wstepsT it hi w3 (p + 1) p _ [101, 110, 99] (by decide) (by decide) HV3.out (by omega) HS3.out K.enc ea ec (fun W0 hW => HKE.out W0 (HK3.out.trans hW)) HKW.out.enc P (fun W0 hW n hn => HIT.out W0 (HOL.out W0 (HK3.out.trans hW)) n hn) HKP.out.ej HKP.out.en (by have h1 := HLN.out; unfold bkM at h1; rw [List.length_append, List.length_append]; omega))
      rw [show strOfNums [101, 110, 99] = (⟨#[101, 110, 99]⟩ : ByteArray) from rfl] at HLA
      go_wp2_with fail
      refine HLA.out.mono ?_
      rintro e w4 ⟨rfl, hv4, hk4⟩
      have HV4 := hid hv4
      have HK4 : Hid (KT (p + 1) p V w4) := hid (HK3.out.trans hk4)
      have B5c := hid (hk4.bl p5 _ _ H5P.out (by decide) B5b.out)
      have L3 := stT_len hi [101, 110, 99] (by decide) K.enc 0
      have HLX : Hid ((X ++ lnT it [98, 108, 111, 99, 107] [(j : Int)] ++ stT it [100, 101, 99] K.dec 0 ++ stT it [101, 110, 99] K.enc 0).length + 48 * K.rows.length ≤ 140737488355328) := hid (by
        have h1 := HLN.out
        unfold bkM at h1
        rw [List.length_append, List.length_append, List.length_append]
        omega)
      clear hv4 hk4 HLA HV3 HK3 B5b x5 z5 HS3 L1 L2 L3
      have HTE : Hid (∀ Y, X ++ lnT it [98, 108, 111, 99, 107] [(j : Int)] ++ stT it [100, 101, 99] K.dec 0 ++ stT it [101, 110, 99] K.enc 0 ++ rwT it K.rows = Y → Y = X ++ bkT it j K) := hid (fun Y hY => by rw [← hY]; unfold bkT; simp only [List.append_assoc])
      generalize X ++ lnT it [98, 108, 111, 99, 107] [(j : Int)] ++ stT it [100, 101, 99] K.dec 0 ++ stT it [101, 110, 99] K.enc 0 = Y at *
      have x5 := B5c.out.cellF
      have z5 := B5c.out.lt
      go_wp2
      go_loopw [30] (fun s30 wq => ∃ i : Nat, s30 = .int .i64 (i : Int) ∧ i ≤ K.rows.length ∧ Hid (WrA wq (p + 1) p (Y ++ rwT it (K.rows.take i))) ∧ Hid (KT (p + 1) p V wq)) (fun s30 wq => K.rows.length - numAt wq s30)
      case atStart => exact ⟨0, rfl, by omega, hid (by simpa [rwT] using HV4.out), HK4⟩
      case round =>
        obtain ⟨i, rfl, hil0, HVi, HKi⟩ := hrel
        clear HV4 HK4 B5c x5 z5
        by_cases hil : i < K.rows.length
        · have h3 : (i : Int) < (K.rows.length : Int) := by omega
          obtain ⟨g4, go4, eg, hc⟩ := rowAt (g := cLN) (fun _ => rfl) (HKR.out _ HKi.out) (i := i) (x := K.rows[i]) (by simp [hil])
          subst eg
          have c0 := hc 0 _ rfl
          have c1 := hc 1 _ rfl
          clear hc
          simp only [Nat.add_zero] at c0
          have hgb := World.block_lt_of_cell? _ _ c0
          have HRX := hid (HKP.out.rn K.rows[i] (List.getElem_mem hil))
          have HSN := hid (rwT_snoc it K.rows i hil)
          have HLI : Hid ((Y ++ rwT it (K.rows.take i)).length + 48 ≤ 140737488355328) := hid (by
            have h1 := rwT_len hi (K.rows.take i)
            have h2 := HLX.out
            rw [List.length_append]
            rw [List.length_take] at h1
            omega)
          generalize K.rows[i] = r at *
          obtain ⟨t, q⟩ := r
          dsimp only at c0 c1
          have HPN : Hid (∀ n ∈ [t, q], P n) := hid (by
            have := HRX.out
            dsimp only at this
            intro n hn
            simp only [List.mem_cons, List.not_mem_nil, or_false] at hn
            rcases hn with rfl | rfl
            · exact this.1
            · exact this.2)
          have HSi : Hid (p + 1 ≤ wr.heap.size) := hid (by have h1 := HSZ.out.1; have h2 := HKi.out.kp.size; omega)
          have BL2 : Hid (Blk ((wr.alloc (.cells #[.int .i64 t, .int .i64 q] 50)).alloc (.cells #[.int .i64 t, .int .i64 q] 3)) (wr.heap.size + 1) 3 ([t, q].map (Value.int .i64)).toArray) := hid (Blk.newAt (by simp))
          have HKB : Hid (KT (p + 1) p V ((wr.alloc (.cells #[.int .i64 t, .int .i64 q] 50)).alloc (.cells #[.int .i64 t, .int .i64 q] 3))) := hid (HKi.out.trans (KT.below (bl_alloc (below_alloc _) _)))
          have HLA := hid (lineT it hi _ (p + 1) p _ [32, 32, 114, 111, 119] [t, q] ((HVi.out.kept (below_alloc (w := wr) (.cells #[.int .i64 t, .int .i64 q] 50))).kept (below_alloc (.cells #[.int .i64 t, .int .i64 q] 3))) (by omega) (by have := HSi.out; simp; omega) (by decide) (some ⟨wr.heap.size + 1, 0, none⟩) 2 (fun W0 hW => RowS.weak (intsRow _ (by simp) (hW.bl (wr.heap.size + 1) 3 _ (by have := HSi.out; omega) (by decide) BL2.out)) (fun _ _ => trivial)) (fun W0 hW n hn => HIT.out W0 (HOL.out W0 (HKB.out.trans hW)) n (HPN.out n hn)) (by have h1 := HLI.out; simp only [List.length_cons, List.length_nil]; omega))
          rw [show strOfNums [32, 32, 114, 111, 119] = (⟨#[32, 32, 114, 111, 119]⟩ : ByteArray) from rfl] at HLA
          clear BL2
          go_wp2_with fail
          refine HLA.out.mono ?_
          rintro e w5 ⟨rfl, hv5, hk5⟩
          have HV5 : Hid (WrA w5 (p + 1) p (Y ++ rwT it (K.rows.take (i + 1)))) := hid (by rw [HSN.out, ← List.append_assoc]; exact hv5)
          have HK5 : Hid (KT (p + 1) p V w5) := hid (HKB.out.trans hk5)
          clear hv5 hk5 HLA
          go_wp2
          exact ⟨⟨i + 1, by simp, by omega, HV5, HK5⟩, by simp [numAt]; omega⟩
        · have h3 : ¬ (i : Int) < (K.rows.length : Int) := by omega
          obtain rfl : i = K.rows.length := by omega
          have HVE : Hid (WrA wr (p + 1) p (txB it (bs.take (j + 1)) 0)) := hid (by
            rw [HTK.out, ← HTE.out _ rfl]
            simpa using HVi.out)
          clear HVi
          go_wp2
          exact ⟨⟨j + 1, by simp, by omega, HVE, HKi⟩, by simp [numAt]; omega⟩
    · have h2 : ¬ (j : Int) < (bs.length : Int) := by omega
      obtain rfl : j = bs.length := by omega
      rw [List.take_length] at HV
      have HXB : Hid (∀ x ∈ txB it bs 0, 0 ≤ x ∧ x ≤ 255) := hid (txB_bd hi bs 0)
      have HX0 : Hid (txB it bs 0 ≠ []) := hid (txB_ne it bs 0 h0)
      have HSG := hid (stringT wr (p + 1) p _ HV.out HXB.out HX0.out)
      go_wp2_with fail
      refine HSG.out.mono ?_
      rintro e w2 ⟨rfl, hb2⟩
      have HB2 : Hid (Below w.heap.size w w2) := hid ((Keep.below (HOL.out _ HK.out) (Nat.le_refl _) (fun k hk => hk)).trans (hb2.mono (by have := HSZ.out; omega)))
      clear hb2
      go_wp2
      go_ret
      exact ⟨rfl, HB2.out⟩
end Go.Proofs.YtpndejibjiojbaaDoor
namespace Go.Proofs.YtpndejibjiojbaaDoor
open Go.RowKit
set_option maxRecDepth 1000000
set_option linter.unusedVariables false
set_option linter.unusedSimpArgs false
set_option maxHeartbeats 2000000
theorem bytesOk (w : World) (bs : List BV) (ba : Option Addr) (bc : Nat) (hp : PgR w (.slice ba bs.length bc) bs) (hw : ∀ x ∈ bs, BkW x.k) (hl : pgN bs ≤ 140737488355328) (hv : ∀ W0, Below w.heap.size w W0 → Calls Tryd.prog 10 #[.agg #[.slice ba bs.length bc]] W0 fun e w' => e = .returned (.bool true) ∧ Below W0.heap.size W0 w') :
    Calls Tryd.prog 5 #[.agg #[.slice ba bs.length bc]] w fun e w' => ∃ v, e = .returned (.tuple #[v, .int .i64 0]) ∧ OwnB w' w.heap.size v (pgB bs) ∧ Below w.heap.size w w' := by
  have HV := hid hv
  have HBO := hid fun W0 (hW : Below w.heap.size w W0) => bytesOfT W0 bs ba bc (hp.kept hW) hw hl
  clear hv hp hw hl
  go_enter Tryd.func5, Tryd.ntmps5
  go_wp2_with fail
  refine (HV.out _ (below_alloc _)).mono ?_
  rintro e w1 ⟨rfl, hb1⟩
  have B1 : Hid (Blk w1 w.heap.size 24 #[.slice ba bs.length bc]) := hid ((Blk.new _ _ _).kept hb1)
  have HB1 : Hid (Below w.heap.size w w1) := hid (bl_then (below_alloc _) hb1)
  clear hb1
  have x1 := B1.out.cellF
  have z1 := B1.out.lt
  go_wp2_with fail
  refine (HBO.out _ HB1.out).mono ?_
  rintro e w2 ⟨v, rfl, hv2, hb2⟩
  have HV2 := hid (own_mono hv2 HB1.out.size)
  have HB2 : Hid (Below w.heap.size w w2) := hid (bl_then HB1.out hb2)
  clear hv2 hb2
  go_wp2
  go_ret2
  exact ⟨_, rfl, HV2.out, HB2.out⟩
theorem textOk (it : Int → List Int) (hi : ItP it) (w : World) (bs : List BV) (ba : Option Addr) (bc : Nat) (hp : PgR w (.slice ba bs.length bc) bs) (hw : ∀ x ∈ bs, BkW x.k) (P : Int → Prop) (hit : ∀ W0 n, P n → ItoaOk it W0 n) (hPi : ∀ i : Nat, i < bs.length → P (i : Int)) (hPk : ∀ x ∈ bs, BkP P x.k) (hl : txN bs ≤ 140737488355328) (h0 : bs ≠ []) (hv : ∀ W0, Below w.heap.size w W0 → Calls Tryd.prog 10 #[.agg #[.slice ba bs.length bc]] W0 fun e w' => e = .returned (.bool true) ∧ Below W0.heap.size W0 w') :
    Calls Tryd.prog 9 #[.agg #[.slice ba bs.length bc]] w fun e w' => e = .returned (.tuple #[.string (strOfNums (txB it bs 0)), .int .i64 0]) ∧ Below w.heap.size w w' := by
  have HV := hid hv
  have HBO := hid fun W0 (hW : Below w.heap.size w W0) => textOfT it hi W0 bs ba bc (hp.kept hW) hw P (fun W1 _ n hn => hit W1 n hn) hPi hPk hl h0
  clear hv hp hw hl hit hPi hPk
  generalize strOfNums (txB it bs 0) = sv at *
  go_enter Tryd.func9, Tryd.ntmps9
  go_wp2_with fail
  refine (HV.out _ (below_alloc _)).mono ?_
  rintro e w1 ⟨rfl, hb1⟩
  have B1 : Hid (Blk w1 w.heap.size 24 #[.slice ba bs.length bc]) := hid ((Blk.new _ _ _).kept hb1)
  have HB1 : Hid (Below w.heap.size w w1) := hid (bl_then (below_alloc _) hb1)
  clear hb1
  have x1 := B1.out.cellF
  have z1 := B1.out.lt
  go_wp2_with fail
  refine (HBO.out _ HB1.out).mono ?_
  rintro e w2 ⟨rfl, hb2⟩
  have HB2 : Hid (Below w.heap.size w w2) := hid (bl_then HB1.out hb2)
  clear hb2
  go_wp2
  go_ret2
  exact ⟨rfl, HB2.out⟩
/-- A reader. -/
def rdC (v : Value) (f : Bool) : Array Value := (opAll ++ [v, .bool f]).toArray
theorem rdC_75 (v : Value) (f : Bool) : (rdC v f)[75]? = some v := by
  unfold rdC
  rw [List.getElem?_toArray, List.getElem?_append_right (by rw [opAll_len]; decide), opAll_len]
  rfl
theorem rdC_76 (v : Value) (f : Bool) : (rdC v f)[76]? = some (.bool f) := by
  unfold rdC
  rw [List.getElem?_toArray, List.getElem?_append_right (by rw [opAll_len]; decide), opAll_len]
  rfl
theorem rdC_lo (v : Value) (f : Bool) (i : Nat) (h : i < 75) : (rdC v f)[i]? = opAll.toArray[i]? := by
  unfold rdC
  rw [List.getElem?_toArray, List.getElem?_toArray, List.getElem?_append_left (by rw [opAll_len]; exact h)]
theorem rdC_size (v : Value) (f : Bool) : (rdC v f).size = 77 := by
  unfold rdC
  simp [opAll_len]
theorem rdC_set75 (v u : Value) (f : Bool) : (rdC v f).setIfInBounds 75 u = rdC u f := by
  unfold rdC
  rw [List.setIfInBounds_toArray, List.set_append_right _ _ (by rw [opAll_len]; decide), opAll_len]
  rfl
theorem rdC_set76 (v : Value) (f g : Bool) : (rdC v f).setIfInBounds 76 (.bool g) = rdC v g := by
  unfold rdC
  rw [List.setIfInBounds_toArray, List.set_append_right _ _ (by rw [opAll_len]; decide), opAll_len]
  rfl
end Go.Proofs.YtpndejibjiojbaaDoor
namespace Go.Proofs.YtpndejibjiojbaaDoor.W
open Go.RowKit
set_option maxRecDepth 1000000
theorem gvF_bd : ∀ (l : List Int) (k : Nat) (X : Int) (p : Int), (∀ x ∈ l, 0 ≤ x ∧ x ≤ 255) → k ≤ 9 → 0 ≤ X → X < 2 ^ (7 * k) → 0 ≤ (gvF l k X p).1 ∧ (gvF l k X p).1 < 18446744073709551616
  | [], _, _, _, _, _, _, _ => by simp [gvF]
  | c :: r, k, X, p, hb, hk, h0, h1 => by
    have hc := hb c (by simp)
    unfold gvF
    by_cases h9 : k = 9 ∧ 1 < c
    · rw [if_pos h9]; simp
    · rw [if_neg h9]
      by_cases hc1 : c < 128
      · rw [if_pos hc1]
        obtain ⟨a1, a2, a3⟩ := or_step k hk X c h0 h1 hc.1 hc1 (fun h => by omega)
        refine ⟨by simp only []; omega, ?_⟩
        simp only []
        by_cases hk9 : k = 9
        · subst hk9
          have e2 : (2 : Int) ^ (7 * 9) = 9223372036854775808 := by decide
          rw [e2] at h1 ⊢
          omega
        · have hs := step_lt k X c h1 hc1
          have hn : (2 : Nat) ^ (7 * (k + 1)) ≤ 2 ^ 63 := Nat.pow_le_pow_right (by decide) (by omega)
          have hn' : (2 : Int) ^ (7 * (k + 1)) ≤ 2 ^ 63 := by exact_mod_cast hn
          have e3 : (2 : Int) ^ 63 = 9223372036854775808 := by decide
          omega
      · rw [if_neg hc1]
        have hp2 : (0 : Int) < 2 ^ (7 * k) := Int.pow_pos (by decide)
        have hm0 : 0 ≤ (c - 128) * 2 ^ (7 * k) := Int.mul_nonneg (by omega) (Int.le_of_lt hp2)
        exact gvF_bd r (k + 1) _ p (fun x hx => hb x (by simp [hx])) (by omega) (by omega) (step_lt k X _ h1 (by omega))
theorem gv_bd {xs : List Int} (h : ∀ x ∈ xs, 0 ≤ x ∧ x ≤ 255) (p : Nat) : 0 ≤ (gv xs p).1 ∧ (gv xs p).1 < 18446744073709551616 :=
  gvF_bd _ 0 0 _ (fun x hx => h x (List.mem_of_mem_drop hx)) (by omega) (by omega) (by simp)
end Go.Proofs.YtpndejibjiojbaaDoor.W
namespace Go.Proofs.YtpndejibjiojbaaDoor.W
open Go.RowKit
set_option maxRecDepth 1000000
def pw (size : Nat) (n : Int) : List Int := (List.range size).map fun i => n / 2 ^ (8 * i) % 256
/-- A chunk's bytes; reading one. -/
def pc (xs : List Int) : List Int := pv xs.length ++ xs
theorem gvF_next : ∀ (l : List Int) (k : Nat) (X p : Int), (gvF l k X p).2.2 = 0 → p + k + 1 ≤ (gvF l k X p).2.1 ∧ (gvF l k X p).2.1 ≤ p + k + l.length
  | [], _, _, _, h => by simp [gvF] at h
  | c :: r, k, X, p, h => by
    unfold gvF at h ⊢
    by_cases h9 : k = 9 ∧ 1 < c
    · rw [if_pos h9] at h; simp at h
    · rw [if_neg h9] at h ⊢
      by_cases hc1 : c < 128
      · rw [if_pos hc1]; simp; omega
      · rw [if_neg hc1] at h ⊢
        have := gvF_next r (k + 1) _ p h
        rw [List.length_cons]
        omega
theorem gv_next {xs : List Int} {p : Nat} (hp : p ≤ xs.length) (h : (gv xs p).2.2 = 0) : (p : Int) + 1 ≤ (gv xs p).2.1 ∧ (gv xs p).2.1 ≤ xs.length := by
  have := gvF_next _ _ _ _ h
  unfold gv
  simp at this
  omega
end Go.Proofs.YtpndejibjiojbaaDoor.W
