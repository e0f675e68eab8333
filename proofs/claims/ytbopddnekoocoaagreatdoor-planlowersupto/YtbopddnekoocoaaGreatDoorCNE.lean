/-
  An enum's type (the document's).
  A field by itself (the document's): what it answers.
  A message's type: what the document answers.
  A field by itself (the document's): kinds below 16.
  A field by itself (the document's): enums.
-/
import Derived.Test.YtbopddnekoocoaaGreatDoorCLO
import Derived.Deep.CutRange
import Derived.Test.YtbopddnekoocoaaGreatDoorCTG
import Derived.Test.YtbopddnekoocoaaGreatDoorCKK
namespace Go.Proofs.YtbopddnekoocoaaGreatDoor
open Go.RowKit
set_option maxRecDepth 1000000
set_option linter.unusedVariables false
set_option linter.unusedSimpArgs false
set_option maxHeartbeats 1000000
def dupP (s y : SY) : Bool := decide (y.name = s.name) || decide (y.num = s.num)
def enmA (pre : List SY) : List SY → Bool
  | [] => true
  | s :: r => nmB s.name && (decide (0 ≤ s.num ∧ s.num < 2147483648) && (!pre.any (dupP s) && enmA (pre ++ [s]) r))
def enmB (t : TT) : Bool := decide (1 ≤ t.ss.length ∧ t.ss.length ≤ 128) && (decide ((t.ss[0]?.map SY.num).getD 0 = 0) && (decide (t.fs.length = 0) && (decide (t.os.length = 0) && (decide (t.rs.length = 0) && enmA [] t.ss))))
theorem takeS_any {l : List SY} {p : SY → Bool} {j : Nat} (h : j < l.length) : (l.take (j + 1)).any p = ((l.take j).any p || p l[j]) := by
  rw [List.take_succ_eq_append_getElem h, List.any_append]; simp
theorem anyS_mono {l : List SY} {p : SY → Bool} {j i : Nat} (h : j < i) (hj : j < l.length) (hp : p l[j] = true) : (l.take i).any p = true := by
  rw [List.any_eq_true]
  exact ⟨l[j], List.mem_take_iff_getElem.2 ⟨j, by omega, rfl⟩, hp⟩
theorem enumR (w : World) (t : TT) (fa oa sa ra : Option Addr) (fc oc sc rc : Nat) (hx : TyR w ⟨t, .slice fa t.fs.length fc, .slice oa t.os.length oc, .slice sa t.ss.length sc, .slice ra t.rs.length rc⟩) (hk : ∀ x ∈ t.ss, TxA x.name) : Calls Tryz.prog 22 #[.agg #[.string (strOfNums t.name), .bool t.enum, .slice fa t.fs.length fc, .slice oa t.os.length oc, .slice sa t.ss.length sc, .slice ra t.rs.length rc]] w fun e w' => e = .returned (.bool (enmB t)) ∧ Below w.heap.size w w' := by
  have HX : Hid (enmB t = (decide (1 ≤ t.ss.length ∧ t.ss.length ≤ 128) && (decide ((t.ss[0]?.map SY.num).getD 0 = 0) && (decide (t.fs.length = 0) && (decide (t.os.length = 0) && (decide (t.rs.length = 0) && enmA [] t.ss)))))) := hid rfl
  generalize enmB t = res at *
  obtain ⟨_, _, e, hns⟩ := rowS_sl hx.s
  clear e
  dsimp only at hns
  have h63s : (t.ss.length : Int) ≤ 9223372036854775807 := by omega
  obtain ⟨_, _, e, hnf⟩ := rowS_sl hx.f
  clear e
  dsimp only at hnf
  have h63f : (t.fs.length : Int) ≤ 9223372036854775807 := by omega
  obtain ⟨_, _, e, hno⟩ := rowS_sl hx.o
  clear e
  dsimp only at hno
  have h63o : (t.os.length : Int) ≤ 9223372036854775807 := by omega
  obtain ⟨_, _, e, hnr⟩ := rowS_sl hx.r
  clear e
  dsimp only at hnr
  have h63r : (t.rs.length : Int) ≤ 9223372036854775807 := by omega
  have HY := hid hx.s
  dsimp only at HY
  have HK := hid hk
  clear hx hk
  by_cases q1 : t.ss.length < 1
  case pos =>
    have k1 : ((t.ss.length : Int) < 1) = True := eq_true (by omega)
    have HF : Hid (res = false) := hid (by rw [HX.out, decide_eq_false (by omega)]; rfl)
    go_enter Tryz.func22, Tryz.ntmps22
    go_wp2
    go_ret
    exact ⟨ret_bool HF.out.symm, by exact blBy⟩
  have k1 : ((t.ss.length : Int) < 1) = False := eq_false (by omega)
  by_cases q2 : 128 < t.ss.length
  case pos =>
    have k2 : ((128 : Int) < (t.ss.length : Int)) = True := eq_true (by omega)
    have HF : Hid (res = false) := hid (by rw [HX.out, decide_eq_false (by omega)]; rfl)
    go_enter Tryz.func22, Tryz.ntmps22
    go_wp2
    go_ret
    exact ⟨ret_bool HF.out.symm, by exact blBy⟩
  have k2 : ((128 : Int) < (t.ss.length : Int)) = False := eq_false (by omega)
  replace HX := hid (show res = (decide ((t.ss[0]?.map SY.num).getD 0 = 0) && (decide (t.fs.length = 0) && (decide (t.os.length = 0) && (decide (t.rs.length = 0) && enmA [] t.ss)))) by rw [HX.out, decide_eq_true (by omega)]; rfl)
  obtain ⟨sb, so, rfl, hbl, -, c1⟩ := rowY HY.out (j := 0) (by omega)
  have e0 : (t.ss[0]?.map SY.num).getD 0 = t.ss[0].num := by rw [List.getElem?_eq_getElem (by omega)]; rfl
  rw [e0] at HX
  simp only [Nat.zero_mul, Nat.add_zero] at c1
  have h0 : (0 : Int) < (t.ss.length : Int) := by omega
  clear e0
  generalize t.ss[0].num = n0 at *
  by_cases q3 : n0 = 0
  case neg =>
    have k3 : (n0 != 0) = true := by simpa using q3
    have HF : Hid (res = false) := hid (by rw [HX.out, decide_eq_false q3]; rfl)
    go_enter Tryz.func22, Tryz.ntmps22
    go_wp2
    go_ret
    exact ⟨ret_bool HF.out.symm, by exact blBy⟩
  subst q3
  replace HX := hid (show res = (decide (t.fs.length = 0) && (decide (t.os.length = 0) && (decide (t.rs.length = 0) && enmA [] t.ss))) by rw [HX.out]; rfl)
  by_cases q4f : 0 < t.fs.length
  case pos =>
    have k4f : ((0 : Int) < (t.fs.length : Int)) = True := eq_true (by omega)
    have HF : Hid (res = false) := hid (by rw [HX.out, decide_eq_false (by omega)]; rfl)
    go_enter Tryz.func22, Tryz.ntmps22
    go_wp2
    go_ret
    exact ⟨ret_bool HF.out.symm, by exact blBy⟩
  have k4f : ((0 : Int) < (t.fs.length : Int)) = False := eq_false (by omega)
  replace HX := hid (show res = (decide (t.os.length = 0) && (decide (t.rs.length = 0) && enmA [] t.ss)) by rw [HX.out, decide_eq_true (by omega)]; first | rfl | simp)
  by_cases q4o : 0 < t.os.length
  case pos =>
    have k4o : ((0 : Int) < (t.os.length : Int)) = True := eq_true (by omega)
    have HF : Hid (res = false) := hid (by rw [HX.out, decide_eq_false (by omega)]; rfl)
    go_enter Tryz.func22, Tryz.ntmps22
    go_wp2
    go_ret
    exact ⟨ret_bool HF.out.symm, by exact blBy⟩
  have k4o : ((0 : Int) < (t.os.length : Int)) = False := eq_false (by omega)
  replace HX := hid (show res = (decide (t.rs.length = 0) && enmA [] t.ss) by rw [HX.out, decide_eq_true (by omega)]; first | rfl | simp)
  by_cases q4r : 0 < t.rs.length
  case pos =>
    have k4r : ((0 : Int) < (t.rs.length : Int)) = True := eq_true (by omega)
    have HF : Hid (res = false) := hid (by rw [HX.out, decide_eq_false (by omega)]; rfl)
    go_enter Tryz.func22, Tryz.ntmps22
    go_wp2
    go_ret
    exact ⟨ret_bool HF.out.symm, by exact blBy⟩
  have k4r : ((0 : Int) < (t.rs.length : Int)) = False := eq_false (by omega)
  replace HX := hid (show res = enmA [] t.ss by rw [HX.out, decide_eq_true (by omega)]; first | rfl | simp)
  go_enter Tryz.func22, Tryz.ntmps22
  go_wp2
  clear c1
  go_loopw [4] (fun r wr => ∃ j : Nat, r = .int .i64 j ∧ j ≤ t.ss.length ∧ Hid (res = enmA (t.ss.take j) (t.ss.drop j)) ∧ Hid (Blk wr w.heap.size 50 #[.string (strOfNums t.name), .bool t.enum, .slice fa t.fs.length fc, .slice oa t.os.length oc, .slice (some ⟨sb, so, none⟩) t.ss.length sc, .slice ra t.rs.length rc]) ∧ Hid (Below w.heap.size w wr)) (fun r wr => t.ss.length - numAt wr r)
  case atStart => exact ⟨0, rfl, by omega, HX, hid (Blk.new _ _ _), hid (by exact blBy)⟩
  case round =>
    clear HX
    obtain ⟨j, rfl, hj, HX, Bx, hb⟩ := hrel
    have xb := Bx.out.cellF
    have zb := Bx.out.lt
    by_cases hlt : j < t.ss.length
    case neg =>
      have h2 : ¬ (j : Int) < (t.ss.length : Int) := by omega
      have HF : Hid (res = true) := hid (by rw [HX.out, List.drop_of_length_le (by omega)]; rfl)
      go_wp2
      go_ret
      exact ⟨ret_bool HF.out.symm, hb.out⟩
    have h2 : (j : Int) < (t.ss.length : Int) := by omega
    obtain ⟨b', o', e, hbl2, c0, c1⟩ := rowY (HY.out.kept hb.out) hlt
    cases e
    have HTN := HK.out _ (List.getElem_mem hlt)
    have HST : Hid (enmA (t.ss.take j) (t.ss.drop j) = (nmB t.ss[j].name && (decide (0 ≤ t.ss[j].num ∧ t.ss[j].num < 2147483648) && (!(t.ss.take j).any (dupP t.ss[j]) && enmA (t.ss.take (j + 1)) (t.ss.drop (j + 1)))))) := hid (by rw [List.drop_eq_getElem_cons hlt, enmA, List.take_succ_eq_append_getElem hlt])
    rw [HST.out] at HX
    clear HST
    generalize t.ss[j] = s at *
    go_wp2_with fail
    refine (isNameR s.name _ HTN.1 HTN.2).mono ?_
    rintro e w1 ⟨rfl, rfl⟩
    cases hq : nmB s.name with
    | false =>
      have HF : Hid (res = false) := hid (by rw [HX.out, hq]; rfl)
      go_wp2
      go_ret
      exact ⟨ret_bool HF.out.symm, by have := hb.out; exact blBy⟩
    | true =>
    replace HX := hid (show res = (decide (0 ≤ s.num ∧ s.num < 2147483648) && (!(t.ss.take j).any (dupP s) && enmA (t.ss.take (j + 1)) (t.ss.drop (j + 1)))) by rw [HX.out, hq]; rfl)
    by_cases n1 : s.num < 0
    case pos =>
      have n2 : (s.num < 0) = True := eq_true n1
      have HF : Hid (res = false) := hid (by rw [HX.out, decide_eq_false (by omega)]; rfl)
      go_wp2
      go_ret
      exact ⟨ret_bool HF.out.symm, by have := hb.out; exact blBy⟩
    have n2 : (s.num < 0) = False := eq_false n1
    by_cases n3 : 2147483648 ≤ s.num
    case pos =>
      have n4 : (2147483648 ≤ s.num) = True := eq_true n3
      have HF : Hid (res = false) := hid (by rw [HX.out, decide_eq_false (by omega)]; rfl)
      go_wp2
      go_ret
      exact ⟨ret_bool HF.out.symm, by have := hb.out; exact blBy⟩
    have n4 : (2147483648 ≤ s.num) = False := eq_false n3
    replace HX := hid (show res = (!(t.ss.take j).any (dupP s) && enmA (t.ss.take (j + 1)) (t.ss.drop (j + 1))) by rw [HX.out, decide_eq_true (by omega)]; rfl)
    go_wp2
    have Bs : Blk (wr.alloc (.cells #[.string (strOfNums s.name), .int .i64 s.num] 63)) wr.heap.size 63 #[.string (strOfNums s.name), .int .i64 s.num] := Blk.new _ _ _
    have Bx1 := Bx.out.kept (below_alloc (w := wr) (.cells #[.string (strOfNums s.name), .int .i64 s.num] 63))
    have hb1 : Hid (Below w.heap.size w (wr.alloc (.cells #[.string (strOfNums s.name), .int .i64 s.num] 63))) := hid (by have := hb.out; exact blBy)
    have hne : w.heap.size < wr.heap.size := zb
    clear c0 c1 xb zb Bx hb hbl2
    generalize (wr.alloc (.cells #[.string (strOfNums s.name), .int .i64 s.num] 63)) = W at *
    generalize wr.heap.size = sp at *
    go_loopw [6] (fun r wr => ∃ k : Nat, r = .int .i64 k ∧ k ≤ j ∧ Hid ((t.ss.take k).any (dupP s) = false) ∧ Hid (Blk wr w.heap.size 50 #[.string (strOfNums t.name), .bool t.enum, .slice fa t.fs.length fc, .slice oa t.os.length oc, .slice (some ⟨sb, so, none⟩) t.ss.length sc, .slice ra t.rs.length rc]) ∧ Hid (Blk wr sp 63 #[.string (strOfNums s.name), .int .i64 s.num]) ∧ Hid (Below w.heap.size w wr)) (fun r wr => j - numAt wr r)
    case atStart => exact ⟨0, rfl, by omega, hid rfl, hid Bx1, hid Bs, hb1⟩
    case round =>
      clear Bx1 Bs hb1
      obtain ⟨k, rfl, hk, hany, Bx, Bs, hb⟩ := hrel
      have xb := Bx.out.cellF
      have zb := Bx.out.lt
      have xs := Bs.out.cellF
      have zs := Bs.out.lt
      by_cases hlt2 : k < j
      case neg =>
        have h3 : ¬ (k : Int) < (j : Int) := by omega
        have ek : k = j := by omega
        subst ek
        have HF : Hid (res = enmA (t.ss.take (k + 1)) (t.ss.drop (k + 1))) := hid (by rw [HX.out, hany.out]; rfl)
        go_wp2
        exact ⟨⟨k + 1, by simp, by omega, HF, Bx, hb⟩, by simp [numAt]; omega⟩
      have h3 : (k : Int) < (j : Int) := by omega
      have h4 : (k : Int) < (t.ss.length : Int) := by omega
      obtain ⟨b', o', e, hbl2, c0, c1⟩ := rowY (HY.out.kept hb.out) (show k < t.ss.length by omega)
      cases e
      have hs := str_eq (HK.out _ (List.getElem_mem (show k < t.ss.length by omega))).1 HTN.1
      have HA := hid (takeS_any (p := dupP s) (show k < t.ss.length by omega))
      have HM : Hid (dupP s t.ss[k] = true → (t.ss.take j).any (dupP s) = true) := hid (anyS_mono hlt2 (by omega))
      generalize t.ss[k] = y at *
      by_cases hq1 : y.name = s.name
      case pos =>
        rw [decide_eq_true hq1] at hs
        have HF : Hid (res = false) := hid (by rw [HX.out, HM.out (by unfold dupP; rw [decide_eq_true hq1]; rfl)]; rfl)
        replace hq1 := hid hq1
        go_wp2
        go_region
        go_wp2
        go_ret
        exact ⟨ret_bool HF.out.symm, by have := hb.out; exact blBy⟩
      rw [decide_eq_false hq1] at hs
      by_cases hq2 : y.num = s.num
      case pos =>
        have hs2 : (y.num == s.num) = true := by simpa using hq2
        have HF : Hid (res = false) := hid (by rw [HX.out, HM.out (by unfold dupP; rw [decide_eq_true hq2]; simp)]; rfl)
        replace hq2 := hid hq2
        go_wp2
        go_region
        go_wp2
        go_ret
        exact ⟨ret_bool HF.out.symm, by have := hb.out; exact blBy⟩
      have hs2 : (y.num == s.num) = false := by simpa using hq2
      have HA2 : Hid ((t.ss.take (k + 1)).any (dupP s) = false) := hid (by rw [HA.out, hany.out]; unfold dupP; rw [decide_eq_false hq1, decide_eq_false hq2]; rfl)
      replace hq1 := hid hq1
      replace hq2 := hid hq2
      go_wp2
      go_region
      go_wp2
      exact ⟨⟨k + 1, by simp, by omega, HA2, hid (Bx.out.kept (by exact blBy)), hid (Bs.out.kept (by exact blBy)), hid (by have := hb.out; exact blBy)⟩, by simp [numAt]; omega⟩
def docB (l : List TV) (k : Nat) (f : FT) : Bool := decide (1 ≤ f.num ∧ f.num ≤ 536870911) && fldB l k f
theorem wrapN {n : Nat} (h : n < 4000000) : IntKind.i64.wrap (n : Int) = (n : Int) := by
  first
  | (unfold IntKind.wrap; simp [IntKind.signed, IntKind.bits]; omega)
  | (simp [IntKind.wrap, IntKind.signed, IntKind.bits, IntKind.min, IntKind.max]; omega)
def riseP (fs : List FT) (i : Nat) (f : FT) : Bool := decide (i = 0 ∨ (fs[i - 1]?.map FT.num).getD 0 < f.num)
def outP (n : Int) (g : RG) : Bool := !decide (g.lo ≤ n ∧ n ≤ g.hi)
def flA (l : List TV) (k : Nat) (rs : List RG) (fs : List FT) : Nat → List FT → Bool
  | _, [] => true
  | i, f :: r => docB l k f && (riseP fs i f && (rs.all (outP f.num) && flA l k rs fs (i + 1) r))
def sameP (s y : List Int) : Bool := decide (s = y)
def nmsA (pre : List (List Int)) : List (List Int) → Bool
  | [] => true
  | s :: r => nmB s && (!pre.any (sameP s) && nmsA (pre ++ [s]) r)
def rgP (rs : List RG) (i : Nat) (g : RG) : Bool := decide (1 ≤ g.lo) && (decide (g.hi ≤ 536870911) && (decide (g.lo ≤ g.hi) && decide (i = 0 ∨ (rs[i - 1]?.map RG.hi).getD 0 < g.lo)))
def rgA (rs : List RG) : Nat → List RG → Bool
  | _, [] => true
  | i, g :: r => rgP rs i g && rgA rs (i + 1) r
def cntB (t : TT) : Bool := decide (t.ss.length = 0 ∧ t.fs.length ≤ 128 ∧ t.rs.length ≤ 128 ∧ t.os.length ≤ t.fs.length)
def msgD (l : List TV) (t : TT) : Bool := cntB t && (memA t.fs t.os.length 0 && (flA l t.os.length t.rs t.fs 0 t.fs && (nmsA [] (t.os ++ t.fs.map FT.name) && rgA t.rs 0 t.rs)))
theorem takeG_any {α : Type} {l : List α} {p : α → Bool} {j : Nat} (h : j < l.length) : (l.take (j + 1)).any p = ((l.take j).any p || p l[j]) := by
  rw [List.take_succ_eq_append_getElem h, List.any_append]; simp
theorem anyG_mono {α : Type} {l : List α} {p : α → Bool} {j i : Nat} (h : j < i) (hj : j < l.length) (hp : p l[j] = true) : (l.take i).any p = true := by
  rw [List.any_eq_true]
  exact ⟨l[j], List.mem_take_iff_getElem.2 ⟨j, by omega, rfl⟩, hp⟩
theorem takeG_all {α : Type} {l : List α} {p : α → Bool} {j : Nat} (h : j < l.length) : (l.take (j + 1)).all p = ((l.take j).all p && p l[j]) := by
  rw [List.take_succ_eq_append_getElem h, List.all_append]; simp
theorem allG_no {α : Type} {l : List α} {p : α → Bool} {j : Nat} (hj : j < l.length) (hp : p l[j] = false) : l.all p = false := by
  cases q : l.all p with
  | false => rfl
  | true => rw [List.all_eq_true.1 q _ (List.getElem_mem hj)] at hp; cases hp
theorem fieldLow (nm : List Int) (num kind ref lab one key : Int) (w : World) (l : List TV) (ta : Option Addr) (tc : Nat) (t : TT) (fa oa sa ra : Option Addr) (fc oc sc rc : Nat) (h : TbR w (.slice ta l.length tc) l) (hl : t.os.length ≤ 9223372036854775807) (n1 : 1 ≤ num) (n2 : num ≤ 536870911) (l1 : 0 ≤ lab) (l2 : lab ≤ 5) (k1 : 1 ≤ kind) (k2 : kind < 16) : Calls Tryz.prog 44 #[.agg #[.slice ta l.length tc], .agg #[.string (strOfNums t.name), .bool t.enum, .slice fa t.fs.length fc, .slice oa t.os.length oc, .slice sa t.ss.length sc, .slice ra t.rs.length rc], .agg #[.string (strOfNums nm), .int .i64 num, .int .i64 kind, .int .i64 ref, .int .i64 lab, .int .i64 one, .int .i64 key]] w fun e w' => e = .returned (.bool (docB l t.os.length ⟨nm, num, kind, ref, lab, one, key⟩)) ∧ Below w.heap.size w w' := by
  obtain ⟨_, _, e, hn⟩ := rowS_sl h.row
  clear e
  have h63 : (l.length : Int) ≤ 9223372036854775807 := by omega
  have h64 : (t.os.length : Int) ≤ 9223372036854775807 := by omega
  have m1 : (num < 1) = False := eq_false (by omega)
  have m2 : (536870911 < num) = False := eq_false (by omega)
  have m3 : (lab < 0) = False := eq_false (by omega)
  have m4 : (5 < lab) = False := eq_false (by omega)
  have HD : Hid (docB l t.os.length ⟨nm, num, kind, ref, lab, one, key⟩ = (refB l ⟨nm, num, kind, ref, lab, one, key⟩ && (labB ⟨nm, num, kind, ref, lab, one, key⟩ && (oneB t.os.length ⟨nm, num, kind, ref, lab, one, key⟩ && keyB ⟨nm, num, kind, ref, lab, one, key⟩)))) := hid (by unfold docB fldB; rw [decide_eq_true (by dsimp only; omega), decide_eq_true (by dsimp only; omega)]; rfl)
  have HK := hid (isKeyR key)
  have HN := hid (numericR kind)
  clear n1 n2
  have kA : (16 ≤ kind) = False := eq_false (by omega)
  have kB : (kind == 17) = false := by rw [beq_eq_false_iff_ne]; omega
  have kC : (kind < 1) = False := eq_false (by omega)
  have kD : (17 < kind) = False := eq_false (by omega)
  have HKX : Hid (¬ kind = 17) := hid (by omega)
  have HR0 : Hid (refB l ⟨nm, num, kind, ref, lab, one, key⟩ = decide (ref = 0)) := hid (by unfold refB; rw [if_neg (by dsimp only; omega)])
  clear k1 k2 h
  by_cases r1 : ref = 0
  case neg =>
    have r2 : (ref != 0) = true := by simpa using r1
    have HR : Hid (refB l ⟨nm, num, kind, ref, lab, one, key⟩ = false) := hid (by rw [HR0.out]; simp [r1])
    replace r1 := hid r1
    go_enter Tryz.func44, Tryz.ntmps44
    go_wp2
    go_ret
    exact ⟨ret_bool (by rw [HD.out, HR.out]; rfl), by exact blBy⟩
  have r2 : (ref != 0) = false := by simpa using r1
  have HR : Hid (refB l ⟨nm, num, kind, ref, lab, one, key⟩ = true) := hid (by rw [HR0.out]; simp [r1])
  replace r1 := hid r1
  clear HR0
  go_enter Tryz.func44, Tryz.ntmps44
  go_upto_region 8 with fail
  have Ba : Blk (((w.alloc (.cells #[.slice ta l.length tc] 24)).alloc (.cells #[.string (strOfNums t.name), .bool t.enum, .slice fa t.fs.length fc, .slice oa t.os.length oc, .slice sa t.ss.length sc, .slice ra t.rs.length rc] 50)).alloc (.cells #[.string (strOfNums nm), .int .i64 num, .int .i64 kind, .int .i64 ref, .int .i64 lab, .int .i64 one, .int .i64 key] 52)) w.heap.size 24 #[.slice ta l.length tc] := (((Blk.new _ _ _).kept (below_alloc _)).kept (below_alloc _))
  have Bb : Blk (((w.alloc (.cells #[.slice ta l.length tc] 24)).alloc (.cells #[.string (strOfNums t.name), .bool t.enum, .slice fa t.fs.length fc, .slice oa t.os.length oc, .slice sa t.ss.length sc, .slice ra t.rs.length rc] 50)).alloc (.cells #[.string (strOfNums nm), .int .i64 num, .int .i64 kind, .int .i64 ref, .int .i64 lab, .int .i64 one, .int .i64 key] 52)) (w.heap.size + 1) 50 #[.string (strOfNums t.name), .bool t.enum, .slice fa t.fs.length fc, .slice oa t.os.length oc, .slice sa t.ss.length sc, .slice ra t.rs.length rc] := ((Blk.newAt (by simp)).kept (below_alloc _))
  have Bc : Blk (((w.alloc (.cells #[.slice ta l.length tc] 24)).alloc (.cells #[.string (strOfNums t.name), .bool t.enum, .slice fa t.fs.length fc, .slice oa t.os.length oc, .slice sa t.ss.length sc, .slice ra t.rs.length rc] 50)).alloc (.cells #[.string (strOfNums nm), .int .i64 num, .int .i64 kind, .int .i64 ref, .int .i64 lab, .int .i64 one, .int .i64 key] 52)) (w.heap.size + 1 + 1) 52 #[.string (strOfNums nm), .int .i64 num, .int .i64 kind, .int .i64 ref, .int .i64 lab, .int .i64 one, .int .i64 key] := (Blk.newAt (by simp))
  have hb0 : Hid (Below w.heap.size w (((w.alloc (.cells #[.slice ta l.length tc] 24)).alloc (.cells #[.string (strOfNums t.name), .bool t.enum, .slice fa t.fs.length fc, .slice oa t.os.length oc, .slice sa t.ss.length sc, .slice ra t.rs.length rc] 50)).alloc (.cells #[.string (strOfNums nm), .int .i64 num, .int .i64 kind, .int .i64 ref, .int .i64 lab, .int .i64 one, .int .i64 key] 52))) := hid (by exact blBy)
  generalize (((w.alloc (.cells #[.slice ta l.length tc] 24)).alloc (.cells #[.string (strOfNums t.name), .bool t.enum, .slice fa t.fs.length fc, .slice oa t.os.length oc, .slice sa t.ss.length sc, .slice ra t.rs.length rc] 50)).alloc (.cells #[.string (strOfNums nm), .int .i64 num, .int .i64 kind, .int .i64 ref, .int .i64 lab, .int .i64 one, .int .i64 key] 52)) = W at *
  have xa := Ba.cellF
  have za := Ba.lt
  have xb := Bb.cellF
  have zb := Bb.lt
  have xc := Bc.cellF
  have zc := Bc.lt
  clear Ba Bb Bc
  have hlab : lab = 0 ∨ lab = 1 ∨ lab = 2 ∨ lab = 3 ∨ lab = 4 ∨ lab = 5 := by omega
  clear m3 m4 l1 l2
  rcases hlab with rfl | rfl | rfl | rfl | rfl | rfl
  · skip
    by_cases o1 : one = 0
    case neg =>
      have o2 : (one != 0) = true := by simpa using o1
      replace o1 := hid o1
      go_wp2_with (first | (go_at_call 26; refine (HN.out _).mono ?_; rintro e w1 ⟨rfl, rfl⟩) | (go_at_call 79; refine (HK.out _).mono ?_; rintro e w1 ⟨rfl, rfl⟩))
      go_ret
      exact ⟨ret_bool (by rw [HD.out, HR.out]; simp [oneB, o1.out]), by have := hb0.out; exact blBy⟩
    have o2 : (one != 0) = false := by simpa using o1
    replace o1 := hid o1
    go_wp2_with (first | (go_at_call 26; refine (HN.out _).mono ?_; rintro e w1 ⟨rfl, rfl⟩) | (go_at_call 79; refine (HK.out _).mono ?_; rintro e w1 ⟨rfl, rfl⟩))
    go_ret
    exact ⟨ret_bool (by rw [HD.out, HR.out]; simp [labB, HKX.out, oneB, keyB, o1.out]; by_cases hk : key = 0 <;> simp [hk]), by have := hb0.out; exact blBy⟩
  · skip
    by_cases o1 : one = 0
    case neg =>
      have o2 : (one != 0) = true := by simpa using o1
      replace o1 := hid o1
      go_wp2_with (first | (go_at_call 26; refine (HN.out _).mono ?_; rintro e w1 ⟨rfl, rfl⟩) | (go_at_call 79; refine (HK.out _).mono ?_; rintro e w1 ⟨rfl, rfl⟩))
      go_ret
      exact ⟨ret_bool (by rw [HD.out, HR.out]; simp [oneB, o1.out]), by have := hb0.out; exact blBy⟩
    have o2 : (one != 0) = false := by simpa using o1
    replace o1 := hid o1
    go_wp2_with (first | (go_at_call 26; refine (HN.out _).mono ?_; rintro e w1 ⟨rfl, rfl⟩) | (go_at_call 79; refine (HK.out _).mono ?_; rintro e w1 ⟨rfl, rfl⟩))
    go_ret
    exact ⟨ret_bool (by rw [HD.out, HR.out]; simp [labB, oneB, keyB, o1.out]; by_cases hk : key = 0 <;> simp [hk]), by have := hb0.out; exact blBy⟩
  · skip
    by_cases o1 : one = 0
    case neg =>
      have o2 : (one != 0) = true := by simpa using o1
      replace o1 := hid o1
      go_wp2_with (first | (go_at_call 26; refine (HN.out _).mono ?_; rintro e w1 ⟨rfl, rfl⟩) | (go_at_call 79; refine (HK.out _).mono ?_; rintro e w1 ⟨rfl, rfl⟩))
      go_ret
      exact ⟨ret_bool (by rw [HD.out, HR.out]; simp [oneB, o1.out]), by have := hb0.out; exact blBy⟩
    have o2 : (one != 0) = false := by simpa using o1
    replace o1 := hid o1
    go_wp2_with (first | (go_at_call 26; refine (HN.out _).mono ?_; rintro e w1 ⟨rfl, rfl⟩) | (go_at_call 79; refine (HK.out _).mono ?_; rintro e w1 ⟨rfl, rfl⟩))
    go_ret
    exact ⟨ret_bool (by rw [HD.out, HR.out]; simp [labB, oneB, keyB, o1.out]; by_cases hk : key = 0 <;> simp [hk]), by have := hb0.out; exact blBy⟩
  · skip
    cases q : knum kind with
    | false =>
      rw [q] at HN
      go_wp2_with (first | (go_at_call 26; refine (HN.out _).mono ?_; rintro e w1 ⟨rfl, rfl⟩) | (go_at_call 79; refine (HK.out _).mono ?_; rintro e w1 ⟨rfl, rfl⟩))
      go_ret
      exact ⟨ret_bool (by rw [HD.out, HR.out]; simp [labB, q]), by have := hb0.out; exact blBy⟩
    | true =>
      rw [q] at HN
      by_cases o1 : one = 0
      case neg =>
        have o2 : (one != 0) = true := by simpa using o1
        replace o1 := hid o1
        go_wp2_with (first | (go_at_call 26; refine (HN.out _).mono ?_; rintro e w1 ⟨rfl, rfl⟩) | (go_at_call 79; refine (HK.out _).mono ?_; rintro e w1 ⟨rfl, rfl⟩))
        go_ret
        exact ⟨ret_bool (by rw [HD.out, HR.out]; simp [oneB, o1.out]), by have := hb0.out; exact blBy⟩
      have o2 : (one != 0) = false := by simpa using o1
      replace o1 := hid o1
      go_wp2_with (first | (go_at_call 26; refine (HN.out _).mono ?_; rintro e w1 ⟨rfl, rfl⟩) | (go_at_call 79; refine (HK.out _).mono ?_; rintro e w1 ⟨rfl, rfl⟩))
      go_ret
      exact ⟨ret_bool (by rw [HD.out, HR.out]; simp [labB, q, oneB, keyB, o1.out]; by_cases hk : key = 0 <;> simp [hk]), by have := hb0.out; exact blBy⟩
  · skip
    by_cases o1 : one < 0
    · have o2 : (one < 0) = True := eq_true o1
      have HO : Hid (one < 0) := hid o1
      clear o1
      go_wp2_with (first | (go_at_call 26; refine (HN.out _).mono ?_; rintro e w1 ⟨rfl, rfl⟩) | (go_at_call 79; refine (HK.out _).mono ?_; rintro e w1 ⟨rfl, rfl⟩))
      go_ret
      exact ⟨ret_bool (by rw [HD.out, HR.out]; have := HO.out; simp [labB, oneB]; intro _ h2; omega), by have := hb0.out; exact blBy⟩
    by_cases o3 : (t.os.length : Int) ≤ one
    · have o2 : (one < 0) = False := eq_false o1
      have o4 : ((t.os.length : Int) ≤ one) = True := eq_true o3
      have HO : Hid ((t.os.length : Int) ≤ one) := hid o3
      clear o1 o3
      go_wp2_with (first | (go_at_call 26; refine (HN.out _).mono ?_; rintro e w1 ⟨rfl, rfl⟩) | (go_at_call 79; refine (HK.out _).mono ?_; rintro e w1 ⟨rfl, rfl⟩))
      go_ret
      exact ⟨ret_bool (by rw [HD.out, HR.out]; have := HO.out; simp [labB, oneB]; intro _ h2; omega), by have := hb0.out; exact blBy⟩
    have o2 : (one < 0) = False := eq_false o1
    have o4 : ((t.os.length : Int) ≤ one) = False := eq_false o3
    have HO : Hid (¬ one < 0 ∧ ¬ (t.os.length : Int) ≤ one) := hid ⟨o1, o3⟩
    clear o1 o3
    go_wp2_with (first | (go_at_call 26; refine (HN.out _).mono ?_; rintro e w1 ⟨rfl, rfl⟩) | (go_at_call 79; refine (HK.out _).mono ?_; rintro e w1 ⟨rfl, rfl⟩))
    go_ret
    exact ⟨ret_bool (by rw [HD.out, HR.out]; have := HO.out; simp [labB, oneB, keyB]; rw [show (decide (0 ≤ one) && decide (one < (t.os.length : Int))) = true by simp; omega]; by_cases hk : key = 0 <;> simp [hk]), by have := hb0.out; exact blBy⟩
  · skip
    by_cases o1 : one = 0
    case neg =>
      have o2 : (one != 0) = true := by simpa using o1
      replace o1 := hid o1
      go_wp2_with (first | (go_at_call 26; refine (HN.out _).mono ?_; rintro e w1 ⟨rfl, rfl⟩) | (go_at_call 79; refine (HK.out _).mono ?_; rintro e w1 ⟨rfl, rfl⟩))
      go_ret
      exact ⟨ret_bool (by rw [HD.out, HR.out]; simp [oneB, o1.out]), by have := hb0.out; exact blBy⟩
    have o2 : (one != 0) = false := by simpa using o1
    replace o1 := hid o1
    go_wp2_with (first | (go_at_call 26; refine (HN.out _).mono ?_; rintro e w1 ⟨rfl, rfl⟩) | (go_at_call 79; refine (HK.out _).mono ?_; rintro e w1 ⟨rfl, rfl⟩))
    go_ret
    exact ⟨ret_bool (by rw [HD.out, HR.out]; simp [labB, oneB, keyB, o1.out]), by have := hb0.out; exact blBy⟩
theorem fieldEnum (nm : List Int) (num ref lab one key : Int) (w : World) (l : List TV) (ta : Option Addr) (tc : Nat) (t : TT) (fa oa sa ra : Option Addr) (fc oc sc rc : Nat) (h : TbR w (.slice ta l.length tc) l) (hl : t.os.length ≤ 9223372036854775807) (n1 : 1 ≤ num) (n2 : num ≤ 536870911) (l1 : 0 ≤ lab) (l2 : lab ≤ 5)  : Calls Tryz.prog 44 #[.agg #[.slice ta l.length tc], .agg #[.string (strOfNums t.name), .bool t.enum, .slice fa t.fs.length fc, .slice oa t.os.length oc, .slice sa t.ss.length sc, .slice ra t.rs.length rc], .agg #[.string (strOfNums nm), .int .i64 num, .int .i64 16, .int .i64 ref, .int .i64 lab, .int .i64 one, .int .i64 key]] w fun e w' => e = .returned (.bool (docB l t.os.length ⟨nm, num, 16, ref, lab, one, key⟩)) ∧ Below w.heap.size w w' := by
  obtain ⟨_, _, e, hn⟩ := rowS_sl h.row
  clear e
  have h63 : (l.length : Int) ≤ 9223372036854775807 := by omega
  have h64 : (t.os.length : Int) ≤ 9223372036854775807 := by omega
  have m1 : (num < 1) = False := eq_false (by omega)
  have m2 : (536870911 < num) = False := eq_false (by omega)
  have m3 : (lab < 0) = False := eq_false (by omega)
  have m4 : (5 < lab) = False := eq_false (by omega)
  have HD : Hid (docB l t.os.length ⟨nm, num, 16, ref, lab, one, key⟩ = (refB l ⟨nm, num, 16, ref, lab, one, key⟩ && (labB ⟨nm, num, 16, ref, lab, one, key⟩ && (oneB t.os.length ⟨nm, num, 16, ref, lab, one, key⟩ && keyB ⟨nm, num, 16, ref, lab, one, key⟩)))) := hid (by unfold docB fldB; rw [decide_eq_true (by dsimp only; omega), decide_eq_true (by dsimp only; omega)]; rfl)
  have HK := hid (isKeyR key)
  have HN := hid (numericR 16)
  clear n1 n2
  have HKX : Hid (¬ (16 : Int) = 17) := hid (by omega)
  have HR0 : Hid (refB l ⟨nm, num, 16, ref, lab, one, key⟩ = (match l[ref.toNat]? with | some x => decide (0 ≤ ref) && (x.t.enum == true) | none => false)) := hid (by unfold refB; rw [if_pos (by simp)]; rfl)
  by_cases r1 : ref < 0
  case pos =>
    have r2 : (ref < 0) = True := eq_true r1
    have HR : Hid (refB l ⟨nm, num, 16, ref, lab, one, key⟩ = false) := hid (by rw [HR0.out]; split <;> simp; intro _; omega)
    clear r1 h HR0
    go_enter Tryz.func44, Tryz.ntmps44
    go_wp2
    have Ba : Blk (((w.alloc (.cells #[.slice ta l.length tc] 24)).alloc (.cells #[.string (strOfNums t.name), .bool t.enum, .slice fa t.fs.length fc, .slice oa t.os.length oc, .slice sa t.ss.length sc, .slice ra t.rs.length rc] 50)).alloc (.cells #[.string (strOfNums nm), .int .i64 num, .int .i64 16, .int .i64 ref, .int .i64 lab, .int .i64 one, .int .i64 key] 52)) w.heap.size 24 #[.slice ta l.length tc] := (((Blk.new _ _ _).kept (below_alloc _)).kept (below_alloc _))
    have Bb : Blk (((w.alloc (.cells #[.slice ta l.length tc] 24)).alloc (.cells #[.string (strOfNums t.name), .bool t.enum, .slice fa t.fs.length fc, .slice oa t.os.length oc, .slice sa t.ss.length sc, .slice ra t.rs.length rc] 50)).alloc (.cells #[.string (strOfNums nm), .int .i64 num, .int .i64 16, .int .i64 ref, .int .i64 lab, .int .i64 one, .int .i64 key] 52)) (w.heap.size + 1) 50 #[.string (strOfNums t.name), .bool t.enum, .slice fa t.fs.length fc, .slice oa t.os.length oc, .slice sa t.ss.length sc, .slice ra t.rs.length rc] := ((Blk.newAt (by simp)).kept (below_alloc _))
    have Bc : Blk (((w.alloc (.cells #[.slice ta l.length tc] 24)).alloc (.cells #[.string (strOfNums t.name), .bool t.enum, .slice fa t.fs.length fc, .slice oa t.os.length oc, .slice sa t.ss.length sc, .slice ra t.rs.length rc] 50)).alloc (.cells #[.string (strOfNums nm), .int .i64 num, .int .i64 16, .int .i64 ref, .int .i64 lab, .int .i64 one, .int .i64 key] 52)) (w.heap.size + 1 + 1) 52 #[.string (strOfNums nm), .int .i64 num, .int .i64 16, .int .i64 ref, .int .i64 lab, .int .i64 one, .int .i64 key] := (Blk.newAt (by simp))
    have hb0 : Hid (Below w.heap.size w (((w.alloc (.cells #[.slice ta l.length tc] 24)).alloc (.cells #[.string (strOfNums t.name), .bool t.enum, .slice fa t.fs.length fc, .slice oa t.os.length oc, .slice sa t.ss.length sc, .slice ra t.rs.length rc] 50)).alloc (.cells #[.string (strOfNums nm), .int .i64 num, .int .i64 16, .int .i64 ref, .int .i64 lab, .int .i64 one, .int .i64 key] 52))) := hid (by exact blBy)
    generalize (((w.alloc (.cells #[.slice ta l.length tc] 24)).alloc (.cells #[.string (strOfNums t.name), .bool t.enum, .slice fa t.fs.length fc, .slice oa t.os.length oc, .slice sa t.ss.length sc, .slice ra t.rs.length rc] 50)).alloc (.cells #[.string (strOfNums nm), .int .i64 num, .int .i64 16, .int .i64 ref, .int .i64 lab, .int .i64 one, .int .i64 key] 52)) = W at *
    have xa := Ba.cellF
    have za := Ba.lt
    have xb := Bb.cellF
    have zb := Bb.lt
    have xc := Bc.cellF
    have zc := Bc.lt
    clear Ba Bb Bc
    go_region
    go_wp2
    go_ret
    exact ⟨ret_bool (by rw [HD.out, HR.out]; rfl), by have := hb0.out; exact blBy⟩
  by_cases r3 : (l.length : Int) ≤ ref
  case pos =>
    have r2 : (ref < 0) = False := eq_false r1
    have r4 : ((l.length : Int) ≤ ref) = True := eq_true r3
    have HR : Hid (refB l ⟨nm, num, 16, ref, lab, one, key⟩ = false) := hid (by rw [HR0.out, List.getElem?_eq_none (by omega)])
    clear r1 r3 h HR0
    go_enter Tryz.func44, Tryz.ntmps44
    go_wp2
    have Ba : Blk (((w.alloc (.cells #[.slice ta l.length tc] 24)).alloc (.cells #[.string (strOfNums t.name), .bool t.enum, .slice fa t.fs.length fc, .slice oa t.os.length oc, .slice sa t.ss.length sc, .slice ra t.rs.length rc] 50)).alloc (.cells #[.string (strOfNums nm), .int .i64 num, .int .i64 16, .int .i64 ref, .int .i64 lab, .int .i64 one, .int .i64 key] 52)) w.heap.size 24 #[.slice ta l.length tc] := (((Blk.new _ _ _).kept (below_alloc _)).kept (below_alloc _))
    have Bb : Blk (((w.alloc (.cells #[.slice ta l.length tc] 24)).alloc (.cells #[.string (strOfNums t.name), .bool t.enum, .slice fa t.fs.length fc, .slice oa t.os.length oc, .slice sa t.ss.length sc, .slice ra t.rs.length rc] 50)).alloc (.cells #[.string (strOfNums nm), .int .i64 num, .int .i64 16, .int .i64 ref, .int .i64 lab, .int .i64 one, .int .i64 key] 52)) (w.heap.size + 1) 50 #[.string (strOfNums t.name), .bool t.enum, .slice fa t.fs.length fc, .slice oa t.os.length oc, .slice sa t.ss.length sc, .slice ra t.rs.length rc] := ((Blk.newAt (by simp)).kept (below_alloc _))
    have Bc : Blk (((w.alloc (.cells #[.slice ta l.length tc] 24)).alloc (.cells #[.string (strOfNums t.name), .bool t.enum, .slice fa t.fs.length fc, .slice oa t.os.length oc, .slice sa t.ss.length sc, .slice ra t.rs.length rc] 50)).alloc (.cells #[.string (strOfNums nm), .int .i64 num, .int .i64 16, .int .i64 ref, .int .i64 lab, .int .i64 one, .int .i64 key] 52)) (w.heap.size + 1 + 1) 52 #[.string (strOfNums nm), .int .i64 num, .int .i64 16, .int .i64 ref, .int .i64 lab, .int .i64 one, .int .i64 key] := (Blk.newAt (by simp))
    have hb0 : Hid (Below w.heap.size w (((w.alloc (.cells #[.slice ta l.length tc] 24)).alloc (.cells #[.string (strOfNums t.name), .bool t.enum, .slice fa t.fs.length fc, .slice oa t.os.length oc, .slice sa t.ss.length sc, .slice ra t.rs.length rc] 50)).alloc (.cells #[.string (strOfNums nm), .int .i64 num, .int .i64 16, .int .i64 ref, .int .i64 lab, .int .i64 one, .int .i64 key] 52))) := hid (by exact blBy)
    generalize (((w.alloc (.cells #[.slice ta l.length tc] 24)).alloc (.cells #[.string (strOfNums t.name), .bool t.enum, .slice fa t.fs.length fc, .slice oa t.os.length oc, .slice sa t.ss.length sc, .slice ra t.rs.length rc] 50)).alloc (.cells #[.string (strOfNums nm), .int .i64 num, .int .i64 16, .int .i64 ref, .int .i64 lab, .int .i64 one, .int .i64 key] 52)) = W at *
    have xa := Ba.cellF
    have za := Ba.lt
    have xb := Bb.cellF
    have zb := Bb.lt
    have xc := Bc.cellF
    have zc := Bc.lt
    clear Ba Bb Bc
    go_region
    go_wp2
    go_ret
    exact ⟨ret_bool (by rw [HD.out, HR.out]; rfl), by have := hb0.out; exact blBy⟩
  obtain ⟨k, rfl⟩ := Int.eq_ofNat_of_zero_le (show 0 ≤ ref by omega)
  have hkl : k < l.length := by omega
  have r2 : ((k : Int) < 0) = False := eq_false r1
  have r4 : ((l.length : Int) ≤ (k : Int)) = False := eq_false r3
  have r5 : (k : Int) < (l.length : Int) := by omega
  obtain ⟨b, o, rfl, hc⟩ := rowAt (g := cTV) (fun _ => rfl) h.row (i := k) (x := l[k]) (by simp [hkl])
  have c0 : w.cell? ⟨b, o + k * 6 + 1, none⟩ = some (.bool l[k].t.enum) := hc 1 _ rfl
  have HR1 : Hid (refB l ⟨nm, num, 16, (k : Int), lab, one, key⟩ = (l[k].t.enum == true)) := hid (by rw [HR0.out]; simp [hkl])
  clear r1 r3 h HR0 hc
  generalize l[k].t.enum = en at *
  cases en with
  | false =>
    have HR : Hid (refB l ⟨nm, num, 16, (k : Int), lab, one, key⟩ = false) := hid (by rw [HR1.out]; rfl)
    go_enter Tryz.func44, Tryz.ntmps44
    go_wp2
    have Ba : Blk (((w.alloc (.cells #[.slice (some ⟨b, o, none⟩) l.length tc] 24)).alloc (.cells #[.string (strOfNums t.name), .bool t.enum, .slice fa t.fs.length fc, .slice oa t.os.length oc, .slice sa t.ss.length sc, .slice ra t.rs.length rc] 50)).alloc (.cells #[.string (strOfNums nm), .int .i64 num, .int .i64 16, .int .i64 (k : Int), .int .i64 lab, .int .i64 one, .int .i64 key] 52)) w.heap.size 24 #[.slice (some ⟨b, o, none⟩) l.length tc] := (((Blk.new _ _ _).kept (below_alloc _)).kept (below_alloc _))
    have Bb : Blk (((w.alloc (.cells #[.slice (some ⟨b, o, none⟩) l.length tc] 24)).alloc (.cells #[.string (strOfNums t.name), .bool t.enum, .slice fa t.fs.length fc, .slice oa t.os.length oc, .slice sa t.ss.length sc, .slice ra t.rs.length rc] 50)).alloc (.cells #[.string (strOfNums nm), .int .i64 num, .int .i64 16, .int .i64 (k : Int), .int .i64 lab, .int .i64 one, .int .i64 key] 52)) (w.heap.size + 1) 50 #[.string (strOfNums t.name), .bool t.enum, .slice fa t.fs.length fc, .slice oa t.os.length oc, .slice sa t.ss.length sc, .slice ra t.rs.length rc] := ((Blk.newAt (by simp)).kept (below_alloc _))
    have Bc : Blk (((w.alloc (.cells #[.slice (some ⟨b, o, none⟩) l.length tc] 24)).alloc (.cells #[.string (strOfNums t.name), .bool t.enum, .slice fa t.fs.length fc, .slice oa t.os.length oc, .slice sa t.ss.length sc, .slice ra t.rs.length rc] 50)).alloc (.cells #[.string (strOfNums nm), .int .i64 num, .int .i64 16, .int .i64 (k : Int), .int .i64 lab, .int .i64 one, .int .i64 key] 52)) (w.heap.size + 1 + 1) 52 #[.string (strOfNums nm), .int .i64 num, .int .i64 16, .int .i64 (k : Int), .int .i64 lab, .int .i64 one, .int .i64 key] := (Blk.newAt (by simp))
    have hb0 : Hid (Below w.heap.size w (((w.alloc (.cells #[.slice (some ⟨b, o, none⟩) l.length tc] 24)).alloc (.cells #[.string (strOfNums t.name), .bool t.enum, .slice fa t.fs.length fc, .slice oa t.os.length oc, .slice sa t.ss.length sc, .slice ra t.rs.length rc] 50)).alloc (.cells #[.string (strOfNums nm), .int .i64 num, .int .i64 16, .int .i64 (k : Int), .int .i64 lab, .int .i64 one, .int .i64 key] 52))) := hid (by exact blBy)
    have c9 := cell_below c0 hb0.out
    clear c0
    generalize (((w.alloc (.cells #[.slice (some ⟨b, o, none⟩) l.length tc] 24)).alloc (.cells #[.string (strOfNums t.name), .bool t.enum, .slice fa t.fs.length fc, .slice oa t.os.length oc, .slice sa t.ss.length sc, .slice ra t.rs.length rc] 50)).alloc (.cells #[.string (strOfNums nm), .int .i64 num, .int .i64 16, .int .i64 (k : Int), .int .i64 lab, .int .i64 one, .int .i64 key] 52)) = W at *
    have xa := Ba.cellF
    have za := Ba.lt
    have xb := Bb.cellF
    have zb := Bb.lt
    have xc := Bc.cellF
    have zc := Bc.lt
    clear Ba Bb Bc
    have hbl2 : b < W.heap.size := World.block_lt_of_cell? _ _ c9
    go_region
    go_wp2
    go_ret
    exact ⟨ret_bool (by rw [HD.out, HR.out]; rfl), by have := hb0.out; exact blBy⟩
  | true =>
  have HR : Hid (refB l ⟨nm, num, 16, (k : Int), lab, one, key⟩ = true) := hid (by rw [HR1.out]; rfl)
  go_enter Tryz.func44, Tryz.ntmps44
  go_wp2
  have Ba : Blk (((w.alloc (.cells #[.slice (some ⟨b, o, none⟩) l.length tc] 24)).alloc (.cells #[.string (strOfNums t.name), .bool t.enum, .slice fa t.fs.length fc, .slice oa t.os.length oc, .slice sa t.ss.length sc, .slice ra t.rs.length rc] 50)).alloc (.cells #[.string (strOfNums nm), .int .i64 num, .int .i64 16, .int .i64 (k : Int), .int .i64 lab, .int .i64 one, .int .i64 key] 52)) w.heap.size 24 #[.slice (some ⟨b, o, none⟩) l.length tc] := (((Blk.new _ _ _).kept (below_alloc _)).kept (below_alloc _))
  have Bb : Blk (((w.alloc (.cells #[.slice (some ⟨b, o, none⟩) l.length tc] 24)).alloc (.cells #[.string (strOfNums t.name), .bool t.enum, .slice fa t.fs.length fc, .slice oa t.os.length oc, .slice sa t.ss.length sc, .slice ra t.rs.length rc] 50)).alloc (.cells #[.string (strOfNums nm), .int .i64 num, .int .i64 16, .int .i64 (k : Int), .int .i64 lab, .int .i64 one, .int .i64 key] 52)) (w.heap.size + 1) 50 #[.string (strOfNums t.name), .bool t.enum, .slice fa t.fs.length fc, .slice oa t.os.length oc, .slice sa t.ss.length sc, .slice ra t.rs.length rc] := ((Blk.newAt (by simp)).kept (below_alloc _))
  have Bc : Blk (((w.alloc (.cells #[.slice (some ⟨b, o, none⟩) l.length tc] 24)).alloc (.cells #[.string (strOfNums t.name), .bool t.enum, .slice fa t.fs.length fc, .slice oa t.os.length oc, .slice sa t.ss.length sc, .slice ra t.rs.length rc] 50)).alloc (.cells #[.string (strOfNums nm), .int .i64 num, .int .i64 16, .int .i64 (k : Int), .int .i64 lab, .int .i64 one, .int .i64 key] 52)) (w.heap.size + 1 + 1) 52 #[.string (strOfNums nm), .int .i64 num, .int .i64 16, .int .i64 (k : Int), .int .i64 lab, .int .i64 one, .int .i64 key] := (Blk.newAt (by simp))
  have hb0 : Hid (Below w.heap.size w (((w.alloc (.cells #[.slice (some ⟨b, o, none⟩) l.length tc] 24)).alloc (.cells #[.string (strOfNums t.name), .bool t.enum, .slice fa t.fs.length fc, .slice oa t.os.length oc, .slice sa t.ss.length sc, .slice ra t.rs.length rc] 50)).alloc (.cells #[.string (strOfNums nm), .int .i64 num, .int .i64 16, .int .i64 (k : Int), .int .i64 lab, .int .i64 one, .int .i64 key] 52))) := hid (by exact blBy)
  have c9 := cell_below c0 hb0.out
  clear c0
  generalize (((w.alloc (.cells #[.slice (some ⟨b, o, none⟩) l.length tc] 24)).alloc (.cells #[.string (strOfNums t.name), .bool t.enum, .slice fa t.fs.length fc, .slice oa t.os.length oc, .slice sa t.ss.length sc, .slice ra t.rs.length rc] 50)).alloc (.cells #[.string (strOfNums nm), .int .i64 num, .int .i64 16, .int .i64 (k : Int), .int .i64 lab, .int .i64 one, .int .i64 key] 52)) = W at *
  have xa := Ba.cellF
  have za := Ba.lt
  have xb := Bb.cellF
  have zb := Bb.lt
  have xc := Bc.cellF
  have zc := Bc.lt
  clear Ba Bb Bc
  have hbl2 : b < W.heap.size := World.block_lt_of_cell? _ _ c9
  go_region
  have hlab : lab = 0 ∨ lab = 1 ∨ lab = 2 ∨ lab = 3 ∨ lab = 4 ∨ lab = 5 := by omega
  clear m3 m4 l1 l2
  rcases hlab with rfl | rfl | rfl | rfl | rfl | rfl
  · skip
    by_cases o1 : one = 0
    case neg =>
      have o2 : (one != 0) = true := by simpa using o1
      replace o1 := hid o1
      go_wp2_with (first | (go_at_call 26; refine (HN.out _).mono ?_; rintro e w1 ⟨rfl, rfl⟩) | (go_at_call 79; refine (HK.out _).mono ?_; rintro e w1 ⟨rfl, rfl⟩))
      go_ret
      exact ⟨ret_bool (by rw [HD.out, HR.out]; simp [oneB, o1.out]), by have := hb0.out; exact blBy⟩
    have o2 : (one != 0) = false := by simpa using o1
    replace o1 := hid o1
    go_wp2_with (first | (go_at_call 26; refine (HN.out _).mono ?_; rintro e w1 ⟨rfl, rfl⟩) | (go_at_call 79; refine (HK.out _).mono ?_; rintro e w1 ⟨rfl, rfl⟩))
    go_ret
    exact ⟨ret_bool (by rw [HD.out, HR.out]; simp [labB, HKX.out, oneB, keyB, o1.out]; by_cases hk : key = 0 <;> simp [hk]), by have := hb0.out; exact blBy⟩
  · skip
    by_cases o1 : one = 0
    case neg =>
      have o2 : (one != 0) = true := by simpa using o1
      replace o1 := hid o1
      go_wp2_with (first | (go_at_call 26; refine (HN.out _).mono ?_; rintro e w1 ⟨rfl, rfl⟩) | (go_at_call 79; refine (HK.out _).mono ?_; rintro e w1 ⟨rfl, rfl⟩))
      go_ret
      exact ⟨ret_bool (by rw [HD.out, HR.out]; simp [oneB, o1.out]), by have := hb0.out; exact blBy⟩
    have o2 : (one != 0) = false := by simpa using o1
    replace o1 := hid o1
    go_wp2_with (first | (go_at_call 26; refine (HN.out _).mono ?_; rintro e w1 ⟨rfl, rfl⟩) | (go_at_call 79; refine (HK.out _).mono ?_; rintro e w1 ⟨rfl, rfl⟩))
    go_ret
    exact ⟨ret_bool (by rw [HD.out, HR.out]; simp [labB, oneB, keyB, o1.out]; by_cases hk : key = 0 <;> simp [hk]), by have := hb0.out; exact blBy⟩
  · skip
    by_cases o1 : one = 0
    case neg =>
      have o2 : (one != 0) = true := by simpa using o1
      replace o1 := hid o1
      go_wp2_with (first | (go_at_call 26; refine (HN.out _).mono ?_; rintro e w1 ⟨rfl, rfl⟩) | (go_at_call 79; refine (HK.out _).mono ?_; rintro e w1 ⟨rfl, rfl⟩))
      go_ret
      exact ⟨ret_bool (by rw [HD.out, HR.out]; simp [oneB, o1.out]), by have := hb0.out; exact blBy⟩
    have o2 : (one != 0) = false := by simpa using o1
    replace o1 := hid o1
    go_wp2_with (first | (go_at_call 26; refine (HN.out _).mono ?_; rintro e w1 ⟨rfl, rfl⟩) | (go_at_call 79; refine (HK.out _).mono ?_; rintro e w1 ⟨rfl, rfl⟩))
    go_ret
    exact ⟨ret_bool (by rw [HD.out, HR.out]; simp [labB, oneB, keyB, o1.out]; by_cases hk : key = 0 <;> simp [hk]), by have := hb0.out; exact blBy⟩
  · skip
    cases q : knum 16 with
    | false =>
      rw [q] at HN
      go_wp2_with (first | (go_at_call 26; refine (HN.out _).mono ?_; rintro e w1 ⟨rfl, rfl⟩) | (go_at_call 79; refine (HK.out _).mono ?_; rintro e w1 ⟨rfl, rfl⟩))
      go_ret
      exact ⟨ret_bool (by rw [HD.out, HR.out]; simp [labB, q]), by have := hb0.out; exact blBy⟩
    | true =>
      rw [q] at HN
      by_cases o1 : one = 0
      case neg =>
        have o2 : (one != 0) = true := by simpa using o1
        replace o1 := hid o1
        go_wp2_with (first | (go_at_call 26; refine (HN.out _).mono ?_; rintro e w1 ⟨rfl, rfl⟩) | (go_at_call 79; refine (HK.out _).mono ?_; rintro e w1 ⟨rfl, rfl⟩))
        go_ret
        exact ⟨ret_bool (by rw [HD.out, HR.out]; simp [oneB, o1.out]), by have := hb0.out; exact blBy⟩
      have o2 : (one != 0) = false := by simpa using o1
      replace o1 := hid o1
      go_wp2_with (first | (go_at_call 26; refine (HN.out _).mono ?_; rintro e w1 ⟨rfl, rfl⟩) | (go_at_call 79; refine (HK.out _).mono ?_; rintro e w1 ⟨rfl, rfl⟩))
      go_ret
      exact ⟨ret_bool (by rw [HD.out, HR.out]; simp [labB, q, oneB, keyB, o1.out]; by_cases hk : key = 0 <;> simp [hk]), by have := hb0.out; exact blBy⟩
  · skip
    by_cases o1 : one < 0
    · have o2 : (one < 0) = True := eq_true o1
      have HO : Hid (one < 0) := hid o1
      clear o1
      go_wp2_with (first | (go_at_call 26; refine (HN.out _).mono ?_; rintro e w1 ⟨rfl, rfl⟩) | (go_at_call 79; refine (HK.out _).mono ?_; rintro e w1 ⟨rfl, rfl⟩))
      go_ret
      exact ⟨ret_bool (by rw [HD.out, HR.out]; have := HO.out; simp [labB, oneB]; intro _ h2; omega), by have := hb0.out; exact blBy⟩
    by_cases o3 : (t.os.length : Int) ≤ one
    · have o2 : (one < 0) = False := eq_false o1
      have o4 : ((t.os.length : Int) ≤ one) = True := eq_true o3
      have HO : Hid ((t.os.length : Int) ≤ one) := hid o3
      clear o1 o3
      go_wp2_with (first | (go_at_call 26; refine (HN.out _).mono ?_; rintro e w1 ⟨rfl, rfl⟩) | (go_at_call 79; refine (HK.out _).mono ?_; rintro e w1 ⟨rfl, rfl⟩))
      go_ret
      exact ⟨ret_bool (by rw [HD.out, HR.out]; have := HO.out; simp [labB, oneB]; intro _ h2; omega), by have := hb0.out; exact blBy⟩
    have o2 : (one < 0) = False := eq_false o1
    have o4 : ((t.os.length : Int) ≤ one) = False := eq_false o3
    have HO : Hid (¬ one < 0 ∧ ¬ (t.os.length : Int) ≤ one) := hid ⟨o1, o3⟩
    clear o1 o3
    go_wp2_with (first | (go_at_call 26; refine (HN.out _).mono ?_; rintro e w1 ⟨rfl, rfl⟩) | (go_at_call 79; refine (HK.out _).mono ?_; rintro e w1 ⟨rfl, rfl⟩))
    go_ret
    exact ⟨ret_bool (by rw [HD.out, HR.out]; have := HO.out; simp [labB, oneB, keyB]; rw [show (decide (0 ≤ one) && decide (one < (t.os.length : Int))) = true by simp; omega]; by_cases hk : key = 0 <;> simp [hk]), by have := hb0.out; exact blBy⟩
  · skip
    by_cases o1 : one = 0
    case neg =>
      have o2 : (one != 0) = true := by simpa using o1
      replace o1 := hid o1
      go_wp2_with (first | (go_at_call 26; refine (HN.out _).mono ?_; rintro e w1 ⟨rfl, rfl⟩) | (go_at_call 79; refine (HK.out _).mono ?_; rintro e w1 ⟨rfl, rfl⟩))
      go_ret
      exact ⟨ret_bool (by rw [HD.out, HR.out]; simp [oneB, o1.out]), by have := hb0.out; exact blBy⟩
    have o2 : (one != 0) = false := by simpa using o1
    replace o1 := hid o1
    go_wp2_with (first | (go_at_call 26; refine (HN.out _).mono ?_; rintro e w1 ⟨rfl, rfl⟩) | (go_at_call 79; refine (HK.out _).mono ?_; rintro e w1 ⟨rfl, rfl⟩))
    go_ret
    exact ⟨ret_bool (by rw [HD.out, HR.out]; simp [labB, oneB, keyB, o1.out]), by have := hb0.out; exact blBy⟩
end Go.Proofs.YtbopddnekoocoaaGreatDoor
