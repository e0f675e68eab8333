/-
  A table is good: what the document answers.
  Both answers about names are one.
  Both answers about an enum are one.
  Both answers about a message are one.
  Both answers about a table are one.
  EvolveFresh: a message's new numbers; any two kinds.
  EvolveAdditive: what additive means.
  What comes in, opened: strings; and what the bound on it says.
  A table that comes in, opened.
-/
import Derived.Test.YtmfaakimhgkedaaGreatDoorCND
import Derived.Test.YtmfaakimhgkedaaGreatDoorNF
import Derived.Test.YtmfaakimhgkedaaGreatDoorCTP
import Derived.Test.YtmfaakimhgkedaaGreatDoorCEV15
import Derived.Test.YtmfaakimhgkedaaGreatDoorCEV24
import Derived.Test.YtmfaakimhgkedaaGreatDoorCEV7
import Derived.Test.YtmfaakimhgkedaaGreatDoorCTY
import Derived.ProofKit
import Derived.OpenShut
import Derived.ShutString
import Derived.Lib.SmallJoins
import Derived.Deep.Slices
import Derived.Deep.Fields
namespace Go.Proofs.YtmfaakimhgkedaaGreatDoor
open Go.RowKit
set_option maxRecDepth 1000000
set_option linter.unusedVariables false
set_option linter.unusedSimpArgs false
set_option maxHeartbeats 1000000
def gtD (l : List TV) (i : Nat) (t : TT) : Bool := nmdB l i t && (if t.enum = true then enmB t else msgD l t)
def gdA (l : List TV) : Nat → List TV → Bool
  | _, [] => true
  | i, x :: r => gtD l i x.t && gdA l (i + 1) r
def goodD (l : List TV) : Bool := decide (l.length ≤ 128) && gdA l 0 l
theorem goodR (w : World) (l : List TV) (ta : Option Addr) (tc : Nat) (h : TbR w (.slice ta l.length tc) l) (hk : ∀ x ∈ l, OkV x) (hz : ∀ x ∈ l, x.t.name.length < 4000000) : Calls Tryz.prog 8 #[.agg #[.slice ta l.length tc]] w fun e w' => e = .returned (.bool (goodD l)) ∧ Below w.heap.size w w' := by
  obtain ⟨_, _, e, hn⟩ := rowS_sl h.row
  clear e
  have h1 : (l.length : Int) ≤ 9223372036854775807 := by omega
  have HT := hid h
  have HK := hid hk
  have HZ := hid hz
  clear h hk hz
  have HX : Hid (goodD l = (decide (l.length ≤ 128) && gdA l 0 l)) := hid rfl
  generalize goodD l = res at *
  by_cases hbig : 128 < l.length
  case pos =>
    have h2 : (128 : Int) < (l.length : Int) := by omega
    have HE : Hid (res = false) := hid (by rw [HX.out, decide_eq_false (by omega)]; rfl)
    go_enter Tryz.func8, Tryz.ntmps8
    go_wp2
    go_ret
    exact ⟨ret_bool HE.out.symm, by exact blBy⟩
  have h2 : ¬ (128 : Int) < (l.length : Int) := by omega
  replace HX := hid (show res = gdA l 0 l by rw [HX.out, decide_eq_true (by omega)]; rfl)
  go_enter Tryz.func8, Tryz.ntmps8
  go_wp2
  go_loopw [3] (fun r wr => ∃ i : Nat, r = .int .i64 i ∧ i ≤ l.length ∧ Hid (res = gdA l i (l.drop i)) ∧ Hid (Blk wr w.heap.size 24 #[.slice ta l.length tc]) ∧ Hid (Below w.heap.size w wr)) (fun r wr => l.length - numAt wr r)
  case atStart => exact ⟨0, rfl, by omega, HX, hid (Blk.new _ _ _), hid (by exact blBy)⟩
  case round =>
    clear HX
    obtain ⟨i, rfl, hi, HX, Ba, hb⟩ := hrel
    have xa := Ba.out.cellF
    have za := Ba.out.lt
    by_cases hlt : i < l.length
    case neg =>
      have h3 : ¬ (i : Int) < (l.length : Int) := by omega
      have HE : Hid (res = true) := hid (by rw [HX.out, List.drop_of_length_le (by omega)]; rfl)
      go_wp2
      go_ret
      exact ⟨ret_bool HE.out.symm, hb.out⟩
    have h3 : (i : Int) < (l.length : Int) := by omega
    have HST : Hid (gdA l i (l.drop i) = (gtD l i l[i].t && gdA l (i + 1) (l.drop (i + 1)))) := hid (by rw [List.drop_eq_getElem_cons hlt, gdA])
    rw [HST.out] at HX
    clear HST
    have HTY := hid (HT.out.ty _ (List.getElem_mem hlt))
    have HOK := hid (HK.out _ (List.getElem_mem hlt))
    have HNM : Hid (∀ W, Below w.heap.size w W → Calls Tryz.prog 27 #[.agg #[.slice ta l.length tc], .int .i64 (i : Int)] W fun e w' => e = .returned (.bool (nmdB l i l[i].t)) ∧ Below W.heap.size W w') := hid fun W hW => namedR W l ta tc i (HT.out.kept hW) (fun x hx => (HK.out x hx).ok.nm) HZ.out hlt
    obtain ⟨tb, tof, rfl, hbl, c0, c1, c2, c3, c4, c5⟩ := row6 (HT.out.row.kept hb.out) hlt
    generalize l[i] = x at *
    obtain ⟨t, f, o, s, r⟩ := x
    obtain ⟨fa, fc, ef, -⟩ := rowS_sl HTY.out.f
    obtain ⟨oa, oc, eo, -⟩ := rowS_sl HTY.out.o
    obtain ⟨sa, sc, es, -⟩ := rowS_sl HTY.out.s
    obtain ⟨ra, rc, er, -⟩ := rowS_sl HTY.out.r
    dsimp only at ef eo es er
    subst ef eo es er
    dsimp only at c0 c1 c2 c3 c4 c5 HX HNM
    go_wp2_with fail
    have Bx : Blk (wr.alloc (.cells #[.string (strOfNums t.name), .bool t.enum, .slice fa t.fs.length fc, .slice oa t.os.length oc, .slice sa t.ss.length sc, .slice ra t.rs.length rc] 50)) wr.heap.size 50 #[.string (strOfNums t.name), .bool t.enum, .slice fa t.fs.length fc, .slice oa t.os.length oc, .slice sa t.ss.length sc, .slice ra t.rs.length rc] := Blk.new _ _ _
    have Ba1 := Ba.out.kept (below_alloc (w := wr) (.cells #[.string (strOfNums t.name), .bool t.enum, .slice fa t.fs.length fc, .slice oa t.os.length oc, .slice sa t.ss.length sc, .slice ra t.rs.length rc] 50))
    have hb1 : Hid (Below w.heap.size w (wr.alloc (.cells #[.string (strOfNums t.name), .bool t.enum, .slice fa t.fs.length fc, .slice oa t.os.length oc, .slice sa t.ss.length sc, .slice ra t.rs.length rc] 50))) := hid (by have := hb.out; exact blBy)
    refine (HNM.out _ hb1.out).mono ?_
    rintro e w1 ⟨rfl, hb2⟩
    replace Ba1 := Ba1.kept hb2
    replace Bx := Bx.kept hb2
    replace hb2 : Hid (Below w.heap.size w w1) := hid (bl_then hb1.out hb2)
    have HBA := hid Ba1
    have HBX := hid Bx
    clear xa za Ba c0 c1 c2 c3 c4 c5 hbl
    have xa := Ba1.cellF
    have za := Ba1.lt
    have xx := Bx.cellF
    have zx := Bx.lt
    clear Ba1 Bx hb1 hb
    generalize wr.heap.size = xp at *
    have HD : Hid (gtD l i t = (nmdB l i t && (if t.enum = true then enmB t else msgD l t))) := hid rfl
    rw [HD.out] at HX
    cases q0 : nmdB l i t with
    | false =>
      have HE : Hid (res = false) := hid (by rw [HX.out, q0]; rfl)
      go_wp2
      go_ret
      exact ⟨ret_bool HE.out.symm, hb2.out⟩
    | true =>
    replace HX := hid (show res = ((if t.enum = true then enmB t else msgD l t) && gdA l (i + 1) (l.drop (i + 1))) by rw [HX.out, q0]; rfl)
    cases qe : t.enum with
    | true =>
      have HEN : Hid (∀ W, Below w.heap.size w W → Calls Tryz.prog 28 #[.agg #[.string (strOfNums t.name), .bool true, .slice fa t.fs.length fc, .slice oa t.os.length oc, .slice sa t.ss.length sc, .slice ra t.rs.length rc]] W fun e w' => e = .returned (.bool (enmB t)) ∧ Below W.heap.size W w') := hid (fun W hW => by have := enumR W t fa oa sa ra fc oc sc rc (HTY.out.kept hW) (fun x hx => (HOK.out.ok.ss x hx).1); rw [qe] at this; exact this)
      replace HX := hid (show res = (enmB t && gdA l (i + 1) (l.drop (i + 1))) by rw [HX.out, qe]; rfl)
      go_wp2_with fail
      refine (HEN.out _ (by have := hb2.out; exact blBy)).mono ?_
      rintro e w2 ⟨rfl, hb3⟩
      have HBA2 := hid (HBA.out.kept hb3)
      have HBX2 := hid (HBX.out.kept hb3)
      replace hb3 : Hid (Below w.heap.size w w2) := hid (bl_then hb2.out hb3)
      clear xa za xx zx
      have xa := HBA2.out.cellF
      have za := HBA2.out.lt
      have xx := HBX2.out.cellF
      have zx := HBX2.out.lt
      cases q1 : enmB t with
      | false =>
        have HE : Hid (res = false) := hid (by rw [HX.out, q1]; rfl)
        go_wp2
        go_ret
        exact ⟨ret_bool HE.out.symm, hb3.out⟩
      | true =>
        have HE : Hid (res = gdA l (i + 1) (l.drop (i + 1))) := hid (by rw [HX.out, q1]; rfl)
        go_wp2
        exact ⟨⟨i + 1, by simp, by omega, HE, HBA2, hb3⟩, by simp [numAt]; omega⟩
    | false =>
      have HEN : Hid (∀ W, Below w.heap.size w W → Calls Tryz.prog 29 #[.agg #[.slice (some ⟨tb, tof, none⟩) l.length tc], .agg #[.string (strOfNums t.name), .bool false, .slice fa t.fs.length fc, .slice oa t.os.length oc, .slice sa t.ss.length sc, .slice ra t.rs.length rc]] W fun e w' => e = .returned (.bool (msgD l t)) ∧ Below W.heap.size W w') := hid (fun W hW => by have := messageR W l _ tc t fa oa sa ra fc oc sc rc (HT.out.kept hW) (HTY.out.kept hW) HOK.out.ok; rw [qe] at this; exact this)
      replace HX := hid (show res = (msgD l t && gdA l (i + 1) (l.drop (i + 1))) by rw [HX.out, qe]; rfl)
      go_wp2_with fail
      refine (HEN.out _ (by have := hb2.out; exact blBy)).mono ?_
      rintro e w2 ⟨rfl, hb3⟩
      have HBA2 := hid (HBA.out.kept hb3)
      have HBX2 := hid (HBX.out.kept hb3)
      replace hb3 : Hid (Below w.heap.size w w2) := hid (bl_then hb2.out hb3)
      clear xa za xx zx
      have xa := HBA2.out.cellF
      have za := HBA2.out.lt
      have xx := HBX2.out.cellF
      have zx := HBX2.out.lt
      cases q1 : msgD l t with
      | false =>
        have HE : Hid (res = false) := hid (by rw [HX.out, q1]; rfl)
        go_wp2
        go_ret
        exact ⟨ret_bool HE.out.symm, hb3.out⟩
      | true =>
        have HE : Hid (res = gdA l (i + 1) (l.drop (i + 1))) := hid (by rw [HX.out, q1]; rfl)
        go_wp2
        exact ⟨⟨i + 1, by simp, by omega, HE, HBA2, hb3⟩, by simp [numAt]; omega⟩
end Go.Proofs.YtmfaakimhgkedaaGreatDoor
namespace Go.Proofs.YtmfaakimhgkedaaGreatDoor
open Go.RowKit
set_option maxRecDepth 1000000
set_option linter.unusedVariables false
set_option linter.unusedSimpArgs false
set_option maxHeartbeats 1000000
theorem byteAt {x : List Int} (hb : ∀ c ∈ x, 0 ≤ c ∧ c ≤ 255) {j : Nat} (hj : j < x.length) : (((strOfNums x).data[j]!).toNat : Int) = x[j] := by
  have hs : j < (strOfNums x).data.size := by have := strOfNums_size x; rw [ByteArray.size] at this; omega
  rw [getElem!_pos (strOfNums x).data j hs]
  have e : (strOfNums x).data[j] = UInt8.ofNat (x[j]).toNat := by simp [strOfNums]
  have := hb _ (List.getElem_mem hj)
  rw [e, UInt8.toNat_ofNat']
  omega
theorem lastD_spec {x : List Int} (hb : ∀ c ∈ x, 0 ≤ c ∧ c ≤ 255) : (lastD x = -1 ∧ ∀ c ∈ x, c ≠ 46) ∨ ∃ a b : List Int, x = a ++ 46 :: b ∧ (∀ c ∈ b, c ≠ 46) ∧ lastD x = a.length := by
  rcases Lib.lastIndexByte_spec (strOfNums x) 46 with ⟨e, h⟩ | ⟨i, hi, e, h1, h2⟩
  · refine .inl ⟨e, fun c hc => ?_⟩
    obtain ⟨j, hj, rfl⟩ := List.mem_iff_getElem.1 hc
    rw [← byteAt hb hj]
    exact h j (by rw [strOfNums_size]; exact hj)
  · rw [strOfNums_size] at hi
    refine .inr ⟨x.take i, x.drop (i + 1), ?_, fun c hc => ?_, ?_⟩
    · rw [byteAt hb hi] at h1
      rw [← h1, List.getElem_cons_drop, List.take_append_drop]
    · obtain ⟨j, hj, rfl⟩ := List.mem_iff_getElem.1 hc
      rw [List.length_drop] at hj
      rw [List.getElem_drop, ← byteAt hb (show i + 1 + j < x.length by omega)]
      exact h2 _ (by omega) (by rw [strOfNums_size]; omega)
    · rw [List.length_take, Nat.min_eq_left (by omega)]; exact e
theorem cutI_app : ∀ (a b : List Int), cutI (a ++ 46 :: b) = cutI a ++ cutI b
  | [], b => by simp [cutI]
  | c :: r, b => by
    rw [List.cons_append, cutI, cutI, cutI_app r b]
    obtain ⟨p, q, e⟩ := cutI_ne r
    rw [e]
    split <;> rfl
theorem headA_find (hd : List Int) : ∀ l : List TV, headA hd l = (match l.find? (fun v => v.t.name == hd) with
  | none => false
  | some v => !v.t.enum)
  | [] => rfl
  | v :: r => by
    rw [headA, List.find?_cons, headA_find hd r]
    by_cases h : v.t.name = hd
    · rw [show nameP hd v = true from decide_eq_true h, show (v.t.name == hd) = true by simpa using h]; rfl
    · rw [show nameP hd v = false from decide_eq_false h, show (v.t.name == hd) = false by simpa using h]; rfl
theorem standEq (l : List TV) (i : Nat) {x : List Int} (hb : ∀ c ∈ x, 0 ≤ c ∧ c ≤ 255) : standB l i x = (decide ((cutI x).length = 1) || headA (x.take (hdN x)) (l.take i)) := by
  rcases lastD_spec hb with ⟨e, h⟩ | ⟨a, b, rfl, h, e⟩
  · rw [cutI_none x h]
    unfold standB
    rw [if_pos (by rw [e]; omega)]
    rfl
  · have ec : cutI (a ++ 46 :: b) = cutI a ++ [b] := by rw [cutI_app, cutI_none b h]
    have hl : 1 ≤ (cutI a).length := by rw [cutI_len]; omega
    have el : lastP (a ++ 46 :: b) = b := by unfold lastP; rw [ec]; simp
    have eh : hdN (a ++ 46 :: b) = a.length := by unfold hdN; rw [el]; simp; omega
    unfold standB
    rw [if_neg (by rw [e]; omega), e, Int.toNat_natCast, headA_find, eh, decide_eq_false (by rw [ec, List.length_append]; simp only [List.length_cons, List.length_nil]; omega)]
    simp only [Bool.false_or]
    cases List.find? (fun v => v.t.name == List.take a.length (a ++ 46 :: b)) (List.take i l) <;> rfl
theorem any_name (l : List TV) (x : List Int) : l.any (nameP x) = named l x := by
  unfold named
  congr 1
  funext v
  unfold nameP
  by_cases h : v.t.name = x <;> simp [h]
theorem nmdEq (l : List TV) (i : Nat) (t : TT) (hb : ∀ c ∈ t.name, 0 ≤ c ∧ c ≤ 255) : nmdB l i t = (!named (l.take i) t.name && (fullB t && standB l i t.name)) := by
  unfold nmdB fullB
  rw [any_name, standEq l i hb, Bool.and_assoc]
  congr 2
  rw [cutI_len]
  split <;> (congr 1; try (apply propext; omega))
end Go.Proofs.YtmfaakimhgkedaaGreatDoor
namespace Go.Proofs.YtmfaakimhgkedaaGreatDoor
open Go.RowKit
set_option maxRecDepth 1000000
set_option linter.unusedVariables false
set_option linter.unusedSimpArgs false
set_option maxHeartbeats 1000000
theorem pw_and {α : Type} {R S : α → α → Prop} : ∀ l : List α, l.Pairwise (fun a b => R a b ∧ S a b) ↔ l.Pairwise R ∧ l.Pairwise S
  | [] => by simp
  | x :: r => by
    rw [List.pairwise_cons, List.pairwise_cons, List.pairwise_cons, pw_and r]
    constructor
    · rintro ⟨h1, h2, h3⟩
      exact ⟨⟨fun a ha => (h1 a ha).1, h2⟩, fun a ha => (h1 a ha).2, h3⟩
    · rintro ⟨⟨h1, h2⟩, h3, h4⟩
      exact ⟨fun a ha => ⟨h1 a ha, h3 a ha⟩, h2, h4⟩
theorem enmA_iff : ∀ (r pre : List SY), enmA pre r = true ↔ (∀ s ∈ r, nmB s.name = true ∧ 0 ≤ s.num ∧ s.num < 2147483648) ∧ r.Pairwise (fun a b => a.name ≠ b.name ∧ a.num ≠ b.num) ∧ ∀ p ∈ pre, ∀ s ∈ r, p.name ≠ s.name ∧ p.num ≠ s.num
  | [], pre => by simp [enmA]
  | s :: r, pre => by
    rw [enmA, Bool.and_eq_true, Bool.and_eq_true, Bool.and_eq_true, enmA_iff r (pre ++ [s]), decide_eq_true_eq, List.pairwise_cons]
    have hd : ((!pre.any (dupP s)) = true) ↔ ∀ p ∈ pre, p.name ≠ s.name ∧ p.num ≠ s.num := by
      rw [Bool.not_eq_true', List.any_eq_false]
      constructor
      · intro h p hp
        have := h p hp
        unfold dupP at this
        simp at this
        exact this
      · intro h p hp
        have := h p hp
        unfold dupP
        simp
        exact this
    rw [hd]
    constructor
    · rintro ⟨h1, h2, h3, h4, h5, h6⟩
      refine ⟨fun x hx => ?_, ⟨fun x hx => h6 s (by simp) x hx, h5⟩, fun p hp x hx => ?_⟩
      · rcases List.mem_cons.1 hx with rfl | hx
        · exact ⟨h1, h2⟩
        · exact h4 x hx
      · rcases List.mem_cons.1 hx with rfl | hx
        · exact h3 p hp
        · exact h6 p (by simp [hp]) x hx
    · rintro ⟨h1, ⟨h2, h3⟩, h4⟩
      refine ⟨(h1 s (by simp)).1, (h1 s (by simp)).2, fun p hp => h4 p hp s (by simp), fun x hx => h1 x (by simp [hx]), h3, fun p hp x hx => ?_⟩
      rcases List.mem_append.1 hp with hp | hp
      · exact h4 p hp x (by simp [hx])
      · simp at hp; subst hp; exact h2 x hx
theorem isKeyS (x : List Int) : WideAt.IsKeyLit (litS x) := trivial
theorem isKeyI (x : Int) : WideAt.IsKeyLit (litI x) := trivial
theorem dfS_iff {ns : List (List Int)} (ht : ∀ x ∈ ns, TxA x) : dfB (ns.map litS) = true ↔ ns.Pairwise (· ≠ ·) := by
  rw [dfB_iff _ (fun x hx => by obtain ⟨y, _, rfl⟩ := List.mem_map.1 hx; exact isKeyS y), List.Nodup, List.pairwise_map]
  exact List.Pairwise.iff_of_mem (fun ha hb => ⟨fun h e => h (by rw [e]), fun h e => h (litS_inj (ht _ ha) (ht _ hb) e)⟩)
theorem dfI_iff (ns : List Int) : dfB (ns.map litI) = true ↔ ns.Pairwise (· ≠ ·) := by
  rw [dfB_iff _ (fun x hx => by obtain ⟨y, _, rfl⟩ := List.mem_map.1 hx; exact isKeyI y), List.Nodup, List.pairwise_map]
  exact List.Pairwise.iff_of_mem (fun ha hb => ⟨fun h e => h (by rw [e]), fun h e => h (by unfold litI at e; injection e)⟩)
theorem enumEq (t : TT) (hk : ∀ x ∈ t.ss, TxA x.name) : enmB t = (decide (t.fs.length + t.os.length + t.rs.length = 0) && symB t.ss) := by
  rw [Bool.eq_iff_iff]
  unfold enmB
  cases hs : t.ss with
  | nil => simp [symB]
  | cons s r =>
    rw [hs] at hk
    rw [symB_is (by simp)]
    simp only [Bool.and_eq_true, decide_eq_true_eq, enmA_iff, List.length_cons, List.getElem?_cons_zero, Option.map_some, Option.getD_some, List.getElem_cons_zero]
    rw [dfS_iff (fun x hx => by obtain ⟨y, hy, rfl⟩ := List.mem_map.1 hx; exact hk y hy), dfI_iff, List.pairwise_map, List.pairwise_map, pw_and, List.all_eq_true, List.all_eq_true]
    constructor
    · rintro ⟨⟨h1, h2⟩, h3, h4, h5, h6, h7, ⟨h8, h9⟩, h10⟩
      refine ⟨by omega, h2, h3, fun x hx => ?_, fun x hx => ?_, h8, h9⟩
      · have := (h7 x hx).2; simp; omega
      · obtain ⟨y, hy, rfl⟩ := List.mem_map.1 hx; exact (h7 y hy).1
    · rintro ⟨h1, h2, h3, h4, h5, h6, h7⟩
      refine ⟨⟨by omega, h2⟩, h3, by omega, by omega, by omega, fun x hx => ⟨h5 _ (List.mem_map.2 ⟨x, hx, rfl⟩), ?_⟩, ⟨h6, h7⟩, by simp⟩
      have := h4 x hx
      simp at this
      omega
end Go.Proofs.YtmfaakimhgkedaaGreatDoor
namespace Go.Proofs.YtmfaakimhgkedaaGreatDoor
open Go.RowKit
set_option maxRecDepth 1000000
set_option linter.unusedVariables false
set_option linter.unusedSimpArgs false
set_option maxHeartbeats 1000000
theorem nmsA_iff : ∀ (r pre : List (List Int)), nmsA pre r = true ↔ (∀ s ∈ r, nmB s = true) ∧ r.Pairwise (· ≠ ·) ∧ ∀ p ∈ pre, ∀ s ∈ r, p ≠ s
  | [], pre => by simp [nmsA]
  | s :: r, pre => by
    rw [nmsA, Bool.and_eq_true, Bool.and_eq_true, nmsA_iff r (pre ++ [s]), List.pairwise_cons]
    have hd : ((!pre.any (sameP s)) = true) ↔ ∀ p ∈ pre, p ≠ s := by
      rw [Bool.not_eq_true', List.any_eq_false]
      constructor
      · intro h p hp e
        exact h p hp (decide_eq_true e.symm)
      · intro h p hp q
        exact h p hp (of_decide_eq_true q).symm
    rw [hd]
    constructor
    · rintro ⟨h1, h3, h4, h5, h6⟩
      refine ⟨fun x hx => ?_, ⟨fun x hx => h6 s (by simp) x hx, h5⟩, fun p hp x hx => ?_⟩
      · rcases List.mem_cons.1 hx with rfl | hx
        · exact h1
        · exact h4 x hx
      · rcases List.mem_cons.1 hx with rfl | hx
        · exact h3 p hp
        · exact h6 p (by simp [hp]) x hx
    · rintro ⟨h1, ⟨h2, h3⟩, h4⟩
      refine ⟨h1 s (by simp), fun p hp => h4 p hp s (by simp), fun x hx => h1 x (by simp [hx]), h3, fun p hp x hx => ?_⟩
      rcases List.mem_append.1 hp with hp | hp
      · exact h4 p hp x (by simp [hx])
      · simp at hp; subst hp; exact h2 x hx
theorem riseA_iff : ∀ (fs : List FT) (z : Int), riseA fs z = true ↔ z ≤ 536870911 ∧ fs.Pairwise (fun a b => a.num < b.num) ∧ ∀ f ∈ fs, z < f.num ∧ f.num ≤ 536870911
  | [], z => by simp [riseA]
  | f :: r, z => by
    rw [riseA, List.pairwise_cons]
    by_cases h : f.num ≤ z
    · rw [if_pos h]
      constructor
      · intro q; cases q
      · rintro ⟨_, _, h2⟩
        have := h2 f (by simp)
        omega
    · rw [if_neg h, riseA_iff r f.num]
      constructor
      · rintro ⟨h1, h2, h3⟩
        refine ⟨by omega, ⟨fun g hg => (h3 g hg).1, h2⟩, fun g hg => ?_⟩
        rcases List.mem_cons.1 hg with rfl | hg
        · omega
        · have := h3 g hg; omega
      · rintro ⟨h1, ⟨h2, h3⟩, h4⟩
        exact ⟨(h4 f (by simp)).2, h3, fun g hg => ⟨h2 g hg, (h4 g (by simp [hg])).2⟩⟩
theorem flA_iff (l : List TV) (k : Nat) (rs : List RG) (fs : List FT) : ∀ (n i : Nat), i + n = fs.length → (flA l k rs fs i (fs.drop i) = true ↔ (∀ f ∈ fs.drop i, docB l k f = true ∧ rs.all (outP f.num) = true) ∧ (fs.drop i).Pairwise (fun a b => a.num < b.num) ∧ (i = 0 ∨ ∀ f ∈ fs.drop i, (fs[i - 1]?.map FT.num).getD 0 < f.num))
  | 0, i, h => by
    rw [List.drop_of_length_le (by omega)]
    simp [flA]
  | n + 1, i, h => by
    have hi : i < fs.length := by omega
    rw [List.drop_eq_getElem_cons hi, flA, Bool.and_eq_true, Bool.and_eq_true, Bool.and_eq_true, flA_iff l k rs fs n (i + 1) (by omega), List.pairwise_cons]
    have e : (fs[i + 1 - 1]?.map FT.num).getD 0 = fs[i].num := by rw [Nat.add_sub_cancel, List.getElem?_eq_getElem hi]; rfl
    rw [e]
    unfold riseP
    rw [decide_eq_true_eq]
    generalize (fs[i - 1]?.map FT.num).getD 0 = pv
    generalize fs[i] = f
    generalize fs.drop (i + 1) = r
    constructor
    · rintro ⟨h1, h2, h3, h4, h5, h6⟩
      have h6' : ∀ g ∈ r, f.num < g.num := fun g hg => by rcases h6 with h6 | h6; omega; exact h6 g hg
      refine ⟨fun g hg => ?_, ⟨h6', h5⟩, ?_⟩
      · rcases List.mem_cons.1 hg with rfl | hg
        · exact ⟨h1, h3⟩
        · exact h4 g hg
      · rcases h2 with h2 | h2
        · exact .inl h2
        · refine .inr fun g hg => ?_
          rcases List.mem_cons.1 hg with rfl | hg
          · exact h2
          · have := h6' g hg; omega
    · rintro ⟨h1, ⟨h2, h3⟩, h4⟩
      exact ⟨(h1 f (by simp)).1, h4.imp id (fun q => q f (by simp)), (h1 f (by simp)).2, fun g hg => h1 g (by simp [hg]), h3, .inr h2⟩
theorem rgA_iff (rs : List RG) : ∀ (n i : Nat), i + n = rs.length → (rgA rs i (rs.drop i) = true ↔ (∀ g ∈ rs.drop i, 1 ≤ g.lo ∧ g.hi ≤ 536870911 ∧ g.lo ≤ g.hi) ∧ (rs.drop i).Pairwise (fun a b => a.hi < b.lo) ∧ (i = 0 ∨ ∀ g ∈ rs.drop i, (rs[i - 1]?.map RG.hi).getD 0 < g.lo))
  | 0, i, h => by
    rw [List.drop_of_length_le (by omega)]
    simp [rgA]
  | n + 1, i, h => by
    have hi : i < rs.length := by omega
    rw [List.drop_eq_getElem_cons hi, rgA, Bool.and_eq_true, rgA_iff rs n (i + 1) (by omega), List.pairwise_cons]
    have e : (rs[i + 1 - 1]?.map RG.hi).getD 0 = rs[i].hi := by rw [Nat.add_sub_cancel, List.getElem?_eq_getElem hi]; rfl
    rw [e]
    unfold rgP
    rw [Bool.and_eq_true, Bool.and_eq_true, Bool.and_eq_true, decide_eq_true_eq, decide_eq_true_eq, decide_eq_true_eq, decide_eq_true_eq]
    generalize (rs[i - 1]?.map RG.hi).getD 0 = pv
    generalize rs[i] = f
    generalize rs.drop (i + 1) = r
    constructor
    · rintro ⟨⟨h1, h2, h3, h0⟩, h4, h5, h6⟩
      have h6' : ∀ g ∈ r, f.hi < g.lo := fun g hg => by rcases h6 with h6 | h6; omega; exact h6 g hg
      refine ⟨fun g hg => ?_, ⟨h6', h5⟩, ?_⟩
      · rcases List.mem_cons.1 hg with rfl | hg
        · exact ⟨h1, h2, h3⟩
        · exact h4 g hg
      · rcases h0 with h2 | h2
        · exact .inl h2
        · refine .inr fun g hg => ?_
          rcases List.mem_cons.1 hg with rfl | hg
          · exact h2
          · have := h6' g hg; omega
    · rintro ⟨h1, ⟨h2, h3⟩, h4⟩
      have := h1 f (by simp)
      exact ⟨⟨this.1, this.2.1, this.2.2, h4.imp id (fun q => q f (by simp))⟩, fun g hg => h1 g (by simp [hg]), h3, .inr h2⟩
theorem freeA_iff (fs : List FT) : ∀ (rs : List RG) (z : Int), freeA fs rs z = true ↔ z ≤ 536870911 ∧ (∀ g ∈ rs, z < g.lo ∧ g.hi ≤ 536870911 ∧ g.lo ≤ g.hi ∧ hitB fs g = false) ∧ rs.Pairwise (fun a b => a.hi < b.lo)
  | [], z => by simp [freeA]
  | g :: r, z => by
    rw [freeA, List.pairwise_cons]
    by_cases h : g.lo ≤ z ∨ g.hi < g.lo
    · rw [if_pos h]
      constructor
      · intro q; cases q
      · rintro ⟨_, h2, _⟩
        have := h2 g (by simp)
        omega
    · rw [if_neg h]
      cases hh : hitB fs g with
      | true =>
        rw [if_pos rfl]
        constructor
        · intro q; cases q
        · rintro ⟨_, h2, _⟩
          have := (h2 g (by simp)).2.2.2
          rw [hh] at this; cases this
      | false =>
        rw [if_neg (by simp), freeA_iff fs r g.hi]
        constructor
        · rintro ⟨h1, h2, h3⟩
          refine ⟨by omega, fun x hx => ?_, fun x hx => (h2 x hx).1, h3⟩
          rcases List.mem_cons.1 hx with rfl | hx
          · exact ⟨by omega, h1, by omega, hh⟩
          · have := h2 x hx; exact ⟨by omega, this.2⟩
        · rintro ⟨h1, h2, h3, h4⟩
          exact ⟨(h2 g (by simp)).2.1, fun x hx => ⟨h3 x hx, (h2 x (by simp [hx])).2⟩, h4⟩
theorem hit_out (fs : List FT) (rs : List RG) : (∀ g ∈ rs, hitB fs g = false) ↔ ∀ f ∈ fs, rs.all (outP f.num) = true := by
  unfold hitB outP
  simp only [List.any_eq_false, List.all_eq_true, decide_eq_true_eq, Bool.not_eq_true', decide_eq_false_iff_not]
  exact ⟨fun h f hf g hg => h g hg f hf, fun h g hg f hf => h f hf g hg⟩
theorem messageEq (l : List TV) (t : TT) (hk : OkT t) : msgD l t = (decide (t.ss.length = 0) && msgB l t) := by
  rw [Bool.eq_iff_iff]
  have htx : ∀ x ∈ t.os ++ t.fs.map FT.name, TxA x := fun x hx => by
    rcases List.mem_append.1 hx with q | q
    · exact hk.os x q
    · obtain ⟨y, hy, rfl⟩ := List.mem_map.1 q
      exact hk.fs y hy
  unfold msgD msgB cntB nmsB
  have hf := flA_iff l t.os.length t.rs t.fs t.fs.length 0 (by omega)
  have hr := rgA_iff t.rs t.rs.length 0 (by omega)
  rw [List.drop_zero] at hf hr
  simp only [Bool.and_eq_true, decide_eq_true_eq, hf, hr, nmsA_iff, riseA_iff, freeA_iff, dfS_iff htx]
  constructor
  · rintro ⟨⟨h1, h2, h3, h4⟩, h5, ⟨h6, h7, -⟩, ⟨h8, h9, -⟩, h10, h11, -⟩
    have hd : ∀ f ∈ t.fs, (1 ≤ f.num ∧ f.num ≤ 536870911) ∧ fldB l t.os.length f = true := fun f hf => by
      have := (h6 f hf).1
      unfold docB at this
      rw [Bool.and_eq_true, decide_eq_true_eq] at this
      exact this
    refine ⟨h1, ⟨h2, h3⟩, List.all_eq_true.2 fun f hf => (hd f hf).2, ⟨by omega, h7, fun f hf => by have := (hd f hf).1; omega⟩, ⟨by omega, fun g hg => ?_, h11⟩, h5, List.all_eq_true.2 h8, h9⟩
    have := h10 g hg
    exact ⟨by omega, this.2.1, this.2.2, (hit_out t.fs t.rs).2 (fun f hf => (h6 f hf).2) g hg⟩
  · rintro ⟨h1, ⟨h2, h3⟩, h4, ⟨-, h5, h6⟩, ⟨-, h7, h8⟩, h9, h10, h11⟩
    refine ⟨⟨h1, h2, h3, mem_few h9⟩, h9, ⟨fun f hf => ⟨?_, ?_⟩, h5, .inl trivial⟩, ⟨List.all_eq_true.1 h10, h11, by simp⟩, fun g hg => ?_, h8, .inl trivial⟩
    · unfold docB
      rw [Bool.and_eq_true, decide_eq_true_eq]
      have := h6 f hf
      exact ⟨by omega, List.all_eq_true.1 h4 f hf⟩
    · exact (hit_out t.fs t.rs).1 (fun g hg => (h7 g hg).2.2.2) f hf
    · have := h7 g hg
      exact ⟨by omega, this.2.1, this.2.2.1⟩
end Go.Proofs.YtmfaakimhgkedaaGreatDoor
namespace Go.Proofs.YtmfaakimhgkedaaGreatDoor
open Go.RowKit
set_option maxRecDepth 1000000
set_option linter.unusedVariables false
set_option linter.unusedSimpArgs false
set_option maxHeartbeats 1000000
theorem stepEq (l : List TV) (i : Nat) (t : TT) (hk : OkT t) : gtD l i t = stepB l i t := by
  unfold gtD stepB typB
  rw [nmdEq l i t hk.nm.1, enumEq t (fun x hx => (hk.ss x hx).1), messageEq l t hk]
  simp only [Bool.and_assoc]
theorem goodA_eq (l : List TV) (hk : ∀ x ∈ l, OkV x) : ∀ (r : List TV) (i : Nat), (∀ x ∈ r, OkV x) → gdA l i r = goodA l r i
  | [], _, _ => rfl
  | x :: r, i, h => by rw [gdA, goodA, stepEq l i x.t (h x (by simp)).ok, goodA_eq l hk r (i + 1) (fun y hy => h y (by simp [hy]))]
theorem goodEq (l : List TV) (hk : ∀ x ∈ l, OkV x) : goodD l = goodB l := by
  unfold goodD goodB
  rw [goodA_eq l hk l 0 hk]
end Go.Proofs.YtmfaakimhgkedaaGreatDoor
namespace Go.Proofs.YtmfaakimhgkedaaGreatDoor
open Go.RowKit
set_option maxRecDepth 1000000
set_option linter.unusedVariables false
set_option linter.unusedSimpArgs false
set_option maxHeartbeats 1000000
end Go.Proofs.YtmfaakimhgkedaaGreatDoor
namespace Go.Proofs.YtmfaakimhgkedaaGreatDoor
open Go.RowKit
set_option maxRecDepth 1000000
set_option linter.unusedVariables false
set_option linter.unusedSimpArgs false
set_option maxHeartbeats 1000000
/-- Diff, as the laws ask it. -/
structure DfN (w : World) (a b : List TV) (v : Value) (c e : Int) (w' : World) : Prop where
  l : Below w.heap.size w w'
  no : ¬ (goodB a = true ∧ goodB b = true) → v = .slice none 0 0 ∧ c = 0 ∧ e = 18
  yes : goodB a = true ∧ goodB b = true → ∃ va vc, v = .slice va (difL a b).length vc ∧ c = wsC (difL a b) ∧ e = 0 ∧ RowS w' AnyZ 4 (.slice va (difL a b).length vc) (difL a b).length ((difL a b).flatMap cCH)
theorem diffN (w : World) (a b : List TV) (ta tb : Option Addr) (tc td : Nat) (ha : TbR w (.slice ta a.length tc) a) (hb : TbR w (.slice tb b.length td) b) (ka : ∀ x ∈ a, OkV x) (kb : ∀ x ∈ b, OkV x) (na : ∀ x ∈ a, x.t.name.length < 4000000) (nb : ∀ x ∈ b, x.t.name.length < 4000000) (m : Int) (hm : w.cell? ⟨0, 0, none⟩ = some (.int .i64 m)) : Calls Tryz.prog 6 #[.agg #[.slice ta a.length tc], .agg #[.slice tb b.length td]] w fun e w' => ∃ v n c r, e = .returned (.tuple #[v, .int .i64 c, .int .i64 r]) ∧ (∃ a' d', v = .slice a' n d') ∧ DfN w a b v c r w' := by
  refine (diffT w a b ta tb tc td ha hb ka kb (fun x hx => by have := na x hx; omega) (fun x hx => by have := nb x hx; omega) m hm).mono ?_
  rintro e w' ⟨h1, h2, h3⟩
  by_cases h : goodB a = true ∧ goodB b = true
  · obtain ⟨va, vc, rfl, h4⟩ := h2 h
    exact ⟨_, _, _, _, rfl, ⟨_, _, rfl⟩, h1, fun q => absurd h q, fun _ => ⟨va, vc, rfl, rfl, rfl, own_row h4 (fun _ _ => trivial)⟩⟩
  · exact ⟨_, _, _, _, h3 h, ⟨_, _, rfl⟩, h1, fun _ => ⟨rfl, rfl, rfl⟩, fun q => absurd q h⟩
theorem findI_cases (l : List TV) (nm : List Int) : (findI l nm < 0 ∧ l.find? (nameP nm) = none) ∨ ∃ (k : Nat) (hk : k < l.length), findI l nm = k ∧ l.find? (nameP nm) = some l[k] := by
  rw [findI_idx]
  cases h : l.findIdx? (nameP nm) with
  | none =>
    rw [List.findIdx?_eq_none_iff] at h
    exact .inl ⟨by decide, List.find?_eq_none.2 (fun y hy => by simpa using h y hy)⟩
  | some k =>
    rw [List.findIdx?_eq_some_iff_getElem] at h
    obtain ⟨hk, h1, h2⟩ := h
    refine .inr ⟨k, hk, rfl, ?_⟩
    rw [List.find?_eq_some_iff_getElem]
    exact ⟨h1, k, hk, rfl, fun j hj => by simpa using h2 j hj⟩
theorem evolveAdditiveW (w : World) (a b : List TV) (ta tb : Option Addr) (da db : Nat) (ha : TbR w (.slice ta a.length da) a) (hb : TbR w (.slice tb b.length db) b) (ka : ∀ x ∈ a, OkV x ∧ x.t.name.length < 4000000) (kb : ∀ x ∈ b, OkV x ∧ x.t.name.length < 4000000) (m : Int) (hm : w.cell? ⟨0, 0, none⟩ = some (.int .i64 m)) : Calls Tryz.prog 5 #[.agg #[.slice ta a.length da], .agg #[.slice tb b.length db]] w fun e w' => e = .returned (.bool true) ∧ Below w.heap.size w w' := by
  have HM := hid hm
  have HTA := hid ha
  have HTB := hid hb
  have HKA := hid ka
  have HKB := hid kb
  have HD := hid fun W (hW : Below w.heap.size w W) => diffN W a b ta tb da db (ha.kept hW) (hb.kept hW) (fun x hx => (ka x hx).1) (fun x hx => (kb x hx).1) (fun x hx => (ka x hx).2) (fun x hx => (kb x hx).2) m (cell_below hm hW)
  have HG1 : Hid (∀ W, Below w.heap.size w W → Calls Tryz.prog 8 #[.agg #[.slice ta a.length da]] W fun e w' => e = .returned (.bool (goodB a)) ∧ Below W.heap.size W w') := hid fun W hW => by
    have := goodR W a ta da (ha.kept hW) (fun x hx => (ka x hx).1) (fun x hx => (ka x hx).2)
    rw [goodEq a (fun x hx => (ka x hx).1)] at this
    exact this
  have HG2 : Hid (∀ W, Below w.heap.size w W → Calls Tryz.prog 8 #[.agg #[.slice tb b.length db]] W fun e w' => e = .returned (.bool (goodB b)) ∧ Below W.heap.size W w') := hid fun W hW => by
    have := goodR W b tb db (hb.kept hW) (fun x hx => (kb x hx).1) (fun x hx => (kb x hx).2)
    rw [goodEq b (fun x hx => (kb x hx).1)] at this
    exact this
  obtain ⟨_, _, e, hn⟩ := rowS_sl ha.row
  clear e
  have h63 : (a.length : Int) ≤ 9223372036854775807 := by omega
  clear ha hb ka kb hm
  go_enter Tryz.func5, Tryz.ntmps5
  go_wp2_with fail
  refine (awake18 _ m (cell_below HM.out (by exact blBy))).mono ?_
  rintro e w1 ⟨rfl, hb1⟩
  have BA : Blk w1 w.heap.size 24 #[.slice ta a.length da] := ((Blk.new _ _ _).kept (below_alloc _)).kept hb1
  have BB : Blk w1 (w.heap.size + 1) 24 #[.slice tb b.length db] := (Blk.newAt (by simp)).kept hb1
  have HL : Hid (Below w.heap.size w w1) := hid (bl_then (by exact blBy) hb1)
  clear hb1 HM
  have x1 := BA.cellF
  have z1 := BA.lt
  have x2 := BB.cellF
  have z2 := BB.lt
  go_wp2_with fail
  refine (HD.out _ HL.out).mono ?_
  rintro e w2 ⟨v1, n1, c1, r1, rfl, ⟨a1, d1, rfl⟩, D1⟩
  replace BA := BA.kept D1.l
  replace BB := BB.kept D1.l
  replace HL := hid (below_trans HL.out D1.l)
  have HD1 := hid D1
  clear D1 x1 x2 z1 z2
  have x1 := BA.cellF
  have z1 := BA.lt
  have x2 := BB.cellF
  have z2 := BB.lt
  by_cases g : goodB a = true ∧ goodB b = true
  case neg =>
    obtain ⟨e1, e2, e3⟩ := HD1.out.no g
    injection e1 with e4 e5 e6
    subst e2 e3 e4 e5 e6
    clear HD1
    go_wp2
    go_ret
    exact ⟨rfl, by have := HL.out; exact blBy⟩
  case pos =>
  obtain ⟨va, vc, e1, e2, e3, -⟩ := HD1.out.yes g
  injection e1 with e4 e5 e6
  subst e2 e3 e4 e5 e6
  have g1 := g.1
  have g2 := g.2
  have HAD := hid (ad_iff a b)
  have HNL := hid (dif_nil a b)
  have HGE := hid (wsC_ge (difL a b))
  have HFR := hid fun W (hW : Below w.heap.size w W) nm (hn : TxA nm) => findR W b tb db (HTB.out.kept hW) (fun x hx => (HKB.out x hx).1.ok.nm) nm hn
  have HPL := hid fun W (hW : Below w.heap.size w W) (i k : Nat) (hi : i < a.length) (hk : k < b.length) => fun s t fa oa sa ra fb ob sb rb fc oc sc rc fd od sd rd (hs : a[i] = ⟨s, .slice fa s.fs.length fc, .slice oa s.os.length oc, .slice sa s.ss.length sc, .slice ra s.rs.length rc⟩) (ht : b[k] = ⟨t, .slice fb t.fs.length fd, .slice ob t.os.length od, .slice sb t.ss.length sd, .slice rb t.rs.length rd⟩) => plainT18 W a b ta tb da db (HTA.out.row.kept hW) (HTB.out.row.kept hW) s t fa oa sa ra fb ob sb rb fc oc sc rc fd od sd rd (hs ▸ (HTA.out.ty _ (List.getElem_mem hi)).kept hW) (ht ▸ (HTB.out.ty _ (List.getElem_mem hk)).kept hW) (by
    have := good_PlK g1 g2 (fun x hx => (HKA.out x hx).1) (fun x hx => (HKB.out x hx).1) hi hk
    rw [hs, ht] at this
    exact this)
  clear HD1
  generalize hL : difL a b = L at *
  go_wp2_with fail
  refine (HG1.out _ HL.out).mono ?_
  rintro e w3 ⟨rfl, hb3⟩
  rw [g1]
  replace BA := BA.kept hb3
  replace BB := BB.kept hb3
  replace HL := hid (below_trans HL.out hb3)
  clear hb3 x1 x2 z1 z2
  have x1 := BA.cellF
  have z1 := BA.lt
  have x2 := BB.cellF
  have z2 := BB.lt
  go_wp2_with fail
  refine (HG2.out _ HL.out).mono ?_
  rintro e w4 ⟨rfl, hb4⟩
  rw [g2]
  have HBA := hid (BA.kept hb4)
  have HBB := hid (BB.kept hb4)
  replace HL := hid (below_trans HL.out hb4)
  clear hb4 x1 x2 z1 z2 BA BB HG1 HG2 HD
  have x1 := HBA.out.cellF
  have z1 := HBA.out.lt
  have x2 := HBB.out.cellF
  have z2 := HBB.out.lt
  go_wp2
  go_loopw [8, 9] (fun v r wr => ∃ (i : Nat) (al : Bool), v = .bool al ∧ r = .int .i64 i ∧ i ≤ a.length ∧ Hid (al = true ↔ ∀ x ∈ a.take i, ∃ y, b.find? (nameP x.t.name) = some y ∧ TyE a b x.t y.t) ∧ Hid (Below w4.heap.size w4 wr)) (fun _ r wr => a.length - numAt wr r)
  case atStart => exact ⟨0, true, rfl, rfl, by omega, hid (by simp), hid (Below.refl _ _)⟩
  case round =>
    obtain ⟨i, al, rfl, rfl, hi, HI, hb⟩ := hrel
    clear x1 x2 z1 z2
    have x1 := (HBA.out.kept hb.out).cellF
    have z1 := (HBA.out.kept hb.out).lt
    have x2 := (HBB.out.kept hb.out).cellF
    have z2 := (HBB.out.kept hb.out).lt
    by_cases hlt : i < a.length
    · have k1 : (i : Int) < (a.length : Int) := by omega
      have HXI : Hid (∀ x, x ∈ a.take (i + 1) ↔ x ∈ a.take i ∨ x = a[i]) := hid fun x => by rw [List.take_succ_eq_append_getElem hlt, List.mem_append, List.mem_singleton]
      obtain ⟨b1, o1, rfl, hb1, c0, c1, c2, c3, c4, c5⟩ := row6 ((HTA.out.row.kept HL.out).kept hb.out) hlt
      have HTX := hid (HKA.out _ (List.getElem_mem hlt)).1.ok.nm
      go_upto_region 12 with fail
      have HU : Hid (Below wr.heap.size wr wr) := hid (Below.refl _ _)
      go_region_held3 (fun W => W.cell? ⟨w.heap.size, 0, none⟩ = some (.slice (some ⟨b1, o1, none⟩) a.length da) ∧ W.cell? ⟨w.heap.size + 1, 0, none⟩ = some (.slice tb b.length db) ∧ W.cell? ⟨b1, o1 + i * 6, none⟩ = some (.string (strOfNums a[i].t.name))) (first | exact ⟨((HBA.out.kept hb.out).kept HU.out).cell 0 _ rfl, ((HBB.out.kept hb.out).kept HU.out).cell 0 _ rfl, c0⟩ | exact ⟨((HBA.out.kept hb.out).kept HU.out).cell 0 _ rfl, ((HBB.out.kept hb.out).kept HU.out).cell 0 _ rfl, cell_below c0 HU.out⟩) (first | (go_at_call 16; refine (HFR.out _ (below_trans (below_trans (below_trans HL.out hb.out) HU.out) (by first | exact below_drew1 _ | exact Below.refl _ _)) _ HTX.out).mono ?_; rintro e u5 ⟨rfl, hu5⟩; replace HU := hid (below_trans HU.out (below_trans (by first | exact below_drew1 _ | exact Below.refl _ _) hu5)); clear hu5))
      rename_i hHeld
      clear hHeld x1 x2 z1 z2 hb1
      replace hb := hid (below_trans hb.out HU.out)
      have x1 := (HBA.out.kept hb.out).cellF
      have z1 := (HBA.out.kept hb.out).lt
      have x2 := (HBB.out.kept hb.out).cellF
      have z2 := (HBB.out.kept hb.out).lt
      replace c0 := cell_below c0 HU.out
      replace c1 := cell_below c1 HU.out
      replace c2 := cell_below c2 HU.out
      replace c3 := cell_below c3 HU.out
      replace c4 := cell_below c4 HU.out
      replace c5 := cell_below c5 HU.out
      have hb1 := World.block_lt_of_cell? _ _ c0
      clear HU
      have HSTEP : Hid (∀ (al : Bool) (v : Bool), (al = true ↔ ∀ x ∈ a.take i, ∃ y, b.find? (nameP x.t.name) = some y ∧ TyE a b x.t y.t) → (v = true ↔ al = true ∧ ∃ y, b.find? (nameP a[i].t.name) = some y ∧ TyE a b a[i].t y.t) → (v = true ↔ ∀ x ∈ a.take (i + 1), ∃ y, b.find? (nameP x.t.name) = some y ∧ TyE a b x.t y.t)) := hid fun al v h1 h2 => by
        rw [h2, h1]
        constructor
        · rintro ⟨p, q⟩ x hx
          rcases (HXI.out x).1 hx with h | h
          · exact p x h
          · rw [h]; exact q
        · intro p
          exact ⟨fun x hx => p x ((HXI.out x).2 (.inl hx)), p _ ((HXI.out _).2 (.inr rfl))⟩
      cases al with
      | false =>
        have HZ := hid (HSTEP.out false false HI.out (by simp))
        clear HSTEP HI HXI
        generalize findI b a[i].t.name = K at *
        go_wp2
        go_quiet (fail)
        go_wp2
        exact ⟨⟨i + 1, false, rfl, by simp, by omega, HZ, hid (by have := hb.out; first | exact this | exact bl_drewN this _ | exact bl_drew this)⟩, by simp [numAt]; omega⟩
      | true =>
      have HST := hid (fun v => HSTEP.out true v HI.out)
      clear HSTEP HI HXI
      rcases findI_cases b a[i].t.name with ⟨h1, h2⟩ | ⟨k, hk, h1, h2⟩
      · have HZ := hid (HST.out false (by rw [h2]; simp))
        generalize findI b a[i].t.name = K at *
        have q1 : (0 ≤ K) = False := eq_false (by omega)
        clear HST h1 h2
        go_wp2
        go_quiet (fail)
        go_wp2
        exact ⟨⟨i + 1, false, rfl, by simp, by omega, HZ, hid (by have := hb.out; first | exact this | exact bl_drewN this _ | exact bl_drew this)⟩, by simp [numAt]; omega⟩
      · have HTP : Hid (TyE a b a[i].t b[k].t ↔ PlP a b a[i].t b[k].t) := hid (ty_pl (good_TyP g1 hlt) (good_TyP g2 hk))
        have q1 : (0 ≤ (k : Int)) = True := eq_true (by omega)
        have k2 : (k : Int) < (b.length : Int) := by omega
        rw [h1]
        rw [h2] at HST
        clear h1 h2
        obtain ⟨b2, o2, rfl, hb2, d0, d1, d2, d3, d4, d5⟩ := row6 ((HTB.out.row.kept HL.out).kept hb.out) hk
        have HT1 := hid (HTA.out.ty _ (List.getElem_mem hlt))
        have HT2 := hid (HTB.out.ty _ (List.getElem_mem hk))
        replace HPL := hid fun W (hW : Below w.heap.size w W) => HPL.out W hW i k hlt hk
        generalize a[i] = x at *
        generalize b[k] = y at *
        obtain ⟨s, f, o, s', r⟩ := x
        obtain ⟨fa, fc, ef, -⟩ := rowS_sl HT1.out.f
        obtain ⟨oa, oc, eo, -⟩ := rowS_sl HT1.out.o
        obtain ⟨sa, sc, es, -⟩ := rowS_sl HT1.out.s
        obtain ⟨ra, rc, er, -⟩ := rowS_sl HT1.out.r
        dsimp only at ef eo es er
        subst ef eo es er
        obtain ⟨t, f, o, s', r⟩ := y
        obtain ⟨fb, fd, ef, -⟩ := rowS_sl HT2.out.f
        obtain ⟨ob, od, eo, -⟩ := rowS_sl HT2.out.o
        obtain ⟨sb, sd, es, -⟩ := rowS_sl HT2.out.s
        obtain ⟨rb, rd, er, -⟩ := rowS_sl HT2.out.r
        dsimp only at ef eo es er
        subst ef eo es er
        dsimp only at c0 c1 c2 c3 c4 c5 d0 d1 d2 d3 d4 d5 HST HTP
        replace HPL := hid fun W (hW : Below w.heap.size w W) => HPL.out W hW s t fa oa sa ra fb ob sb rb fc oc sc rc fd od sd rd rfl rfl
        unfold aTY at HPL
        clear HT1 HT2
        go_upto_region 13 with fail
        generalize u5 = u6 at *
        have HU : Hid (Below u6.heap.size u6 u6) := hid (Below.refl _ _)
        go_region_held3 (fun W => W.cell? ⟨w.heap.size, 0, none⟩ = some (.slice (some ⟨b1, o1, none⟩) a.length da) ∧ W.cell? ⟨w.heap.size + 1, 0, none⟩ = some (.slice (some ⟨b2, o2, none⟩) b.length db) ∧ W.cell? ⟨b1, o1 + i * 6, none⟩ = some (.string (strOfNums s.name)) ∧ W.cell? ⟨b1, o1 + i * 6 + 1, none⟩ = some (.bool s.enum) ∧ W.cell? ⟨b1, o1 + i * 6 + 2, none⟩ = some (.slice fa s.fs.length fc) ∧ W.cell? ⟨b1, o1 + i * 6 + 3, none⟩ = some (.slice oa s.os.length oc) ∧ W.cell? ⟨b1, o1 + i * 6 + 4, none⟩ = some (.slice sa s.ss.length sc) ∧ W.cell? ⟨b1, o1 + i * 6 + 5, none⟩ = some (.slice ra s.rs.length rc) ∧ W.cell? ⟨b2, o2 + k * 6, none⟩ = some (.string (strOfNums t.name)) ∧ W.cell? ⟨b2, o2 + k * 6 + 1, none⟩ = some (.bool t.enum) ∧ W.cell? ⟨b2, o2 + k * 6 + 2, none⟩ = some (.slice fb t.fs.length fd) ∧ W.cell? ⟨b2, o2 + k * 6 + 3, none⟩ = some (.slice ob t.os.length od) ∧ W.cell? ⟨b2, o2 + k * 6 + 4, none⟩ = some (.slice sb t.ss.length sd) ∧ W.cell? ⟨b2, o2 + k * 6 + 5, none⟩ = some (.slice rb t.rs.length rd)) (first | exact ⟨(HBA.out.kept hb.out).cell 0 _ rfl, (HBB.out.kept hb.out).cell 0 _ rfl, c0, c1, c2, c3, c4, c5, d0, d1, d2, d3, d4, d5⟩ | exact ⟨((HBA.out.kept hb.out).kept HU.out).cell 0 _ rfl, ((HBB.out.kept hb.out).kept HU.out).cell 0 _ rfl, cell_below c0 HU.out, cell_below c1 HU.out, cell_below c2 HU.out, cell_below c3 HU.out, cell_below c4 HU.out, cell_below c5 HU.out, cell_below d0 HU.out, cell_below d1 HU.out, cell_below d2 HU.out, cell_below d3 HU.out, cell_below d4 HU.out, cell_below d5 HU.out⟩) (first | (go_at_call 17; refine (HPL.out _ (below_trans (below_trans (below_trans HL.out hb.out) HU.out) (by first | exact below_drew1 _ | exact Below.refl _ _))).mono ?_; rintro e u7 ⟨pr, rfl, hpr, hu7⟩; have HPR := hid hpr; replace HU := hid (below_trans HU.out (below_trans (by first | exact below_drew1 _ | exact Below.refl _ _) hu7)); clear hu7 hpr))
        rename_i hHeld
        clear hHeld
        have HZ := hid (HST.out pr (by
          rw [HPR.out, ← HTP.out]
          simp))
        go_wp2
        exact ⟨⟨i + 1, pr, rfl, by simp, by omega, HZ, hid (below_trans hb.out HU.out)⟩, by simp [numAt]; omega⟩
    · have k1 : ¬ (i : Int) < (a.length : Int) := by omega
      have HALL : Hid (al = true ↔ wsC L ≤ 2) := hid (by rw [HAD.out, HI.out, List.take_of_length_le (by omega)]; exact Iff.rfl)
      have HLN : Hid (L.length = 0 ↔ wsC L = 1) := hid (by rw [← HNL.out, List.length_eq_zero_iff])
      clear HI HAD HNL
      generalize wsC L = C at *
      generalize L.length = N at *
      have e1 : (C ≤ 2) = (al = true) := propext HALL.out.symm
      by_cases h1 : C = 1
      · have h0 : N = 0 := HLN.out.2 h1
        have ha : al = true := HALL.out.2 (by omega)
        subst h1 h0 ha
        clear e1 HALL HLN
        go_wp2
        go_ret
        exact ⟨rfl, below_trans HL.out hb.out⟩
      · have h0 : N ≠ 0 := fun h => h1 (HLN.out.1 h)
        have q1 : (C == 1) = false := by rw [beq_eq_false_iff_ne]; exact h1
        have q2 : ((N : Int) == 0) = false := by rw [beq_eq_false_iff_ne]; omega
        cases al with
        | true =>
          have q3 : (C ≤ 2) = True := eq_true (HALL.out.1 rfl)
          clear e1 HALL HLN h1 h0
          go_wp2
          go_ret
          exact ⟨rfl, below_trans HL.out hb.out⟩
        | false =>
          have q3 : (C ≤ 2) = False := eq_false (fun h => by have := HALL.out.2 h; cases this)
          clear e1 HALL HLN h1 h0
          go_wp2
          go_ret
          exact ⟨rfl, below_trans HL.out hb.out⟩
end Go.Proofs.YtmfaakimhgkedaaGreatDoor
namespace Go.Proofs.YtmfaakimhgkedaaGreatDoor
open Go.ChangeShapes Go.WideShapes Go.ChangeAt Go.RowKit Go.Deep
set_option maxRecDepth 1000000
section
variable {H : Type}
theorem bulk_one (d : DataW H) : 1 ≤ Rows.uptoBulk d := by
  cases d with
  | lit l => cases l <;> simp [Rows.uptoBulk]
  | nil => simp [Rows.uptoBulk]
  | ptr d => simp [Rows.uptoBulk]
  | slice elems spare => simp [Rows.uptoBulk]
  | agg parts => simp [Rows.uptoBulk]
  | iface t d => simp [Rows.uptoBulk]
  | map entries => simp [Rows.uptoBulk]
  | held h => simp [Rows.uptoBulk]
theorem bulk_length (l : List (DataW H)) : l.length ≤ Rows.uptoBulkAll l := by
  induction l with
  | nil => simp [Rows.uptoBulkAll]
  | cons x r ih => have := bulk_one x; simp only [Rows.uptoBulkAll, List.length_cons]; omega
theorem small_le {l : List (DataW H)} (hk : Rows.uptoSmall H l = true) : Rows.uptoBulkAll l ≤ 1048576 := of_decide_eq_true hk
end
/-- The numbers of a string's bytes. -/
def numsS (s : ByteArray) : List Int := s.data.toList.map fun b => (b.toNat : Int)
theorem numsS_str (s : ByteArray) : strOfNums (numsS s) = s := by
  apply ByteArray.ext
  apply Array.ext'
  simp [strOfNums, numsS, Function.comp_def]
theorem numsS_bd (s : ByteArray) : ∀ x ∈ numsS s, 0 ≤ x ∧ x ≤ 255 := by
  intro x hx
  obtain ⟨b, _, rfl⟩ := List.mem_map.1 hx
  have := b.toNat_lt
  omega
theorem numsS_len (s : ByteArray) : (numsS s).length = s.data.toList.length := by simp [numsS]
end Go.Proofs.YtmfaakimhgkedaaGreatDoor
namespace Go.Proofs.YtmfaakimhgkedaaGreatDoor
open Go.ChangeShapes Go.WideShapes Go.ChangeAt Go.RowKit Go.Deep
set_option maxRecDepth 1000000
set_option linter.unusedVariables false
set_option linter.unusedSimpArgs false
set_option maxHeartbeats 1000000
section
variable {H : Type} {enc : TypeId × Value → H} {W : World} {spare : Nat → Bool} {held : Bool}
/-- A struct of fields of one cell each, opened. -/
theorem struct_open {t : TypeId} {fs : Array Field} (ht : Tryz.prog.underlying t = some (.struct fs)) (hone : oneCellFields Tryz.prog fs = true) (hsz : Tryz.prog.cellsOf t = fs.size) {fuel : Nat} {cs : List Value} {y : DataW H × List MemPlace} (h : DataW.trod enc Tryz.prog W 0 spare held fuel t cs = some y) :
    ∃ (xs : List (DataW H × List MemPlace)) (n : Nat), y.1 = .agg (xs.map (·.1)) ∧ xs.length = fs.size ∧ cs.length = fs.size ∧ ∀ (i : Nat) (f : Field), fs[i]? = some f → ∃ v yi, cs[i]? = some v ∧ xs[i]? = some yi ∧ DataW.trod enc Tryz.prog W 0 spare held n f.type [v] = some yi := by
  obtain ⟨xs, n, _, rfl, hl, hlen, hf⟩ := DataW.trod_struct ht h
  refine ⟨xs, n, rfl, hlen, hl.trans hsz, fun i f hi => ?_⟩
  have hlt : i < fs.size := (Array.getElem?_eq_some_iff.1 hi).1
  obtain ⟨o1, o2⟩ := hone_of hone i f hi
  have hc : i < cs.length := by omega
  have hx : i < xs.length := by omega
  refine ⟨cs[i], xs[i], by simp [hc], by simp [hx], ?_⟩
  have := hf i f hi
  have e : (cs.drop i).take 1 = [cs[i]] := by rw [List.drop_eq_getElem_cons hc]; rfl
  rw [o1, o2, e] at this
  rw [this]
  simp [hx]
theorem bulk_mem {l : List (DataW H)} {d : DataW H} (h : d ∈ l) : Rows.uptoBulk d ≤ Rows.uptoBulkAll l := by
  induction l with
  | nil => cases h
  | cons x r ih =>
    simp only [Rows.uptoBulkAll]
    rcases List.mem_cons.1 h with rfl | h
    · omega
    · have := ih h; omega
theorem bulk_get {xs : List (DataW H × List MemPlace)} {i : Nat} {y : DataW H × List MemPlace} (h : xs[i]? = some y) : Rows.uptoBulk y.1 + 1 ≤ Rows.uptoBulk (DataW.agg (xs.map (·.1))) := by
  have := bulk_mem (l := xs.map (·.1)) (d := y.1) (List.mem_map.2 ⟨y, List.mem_of_getElem? h, rfl⟩)
  simp only [Rows.uptoBulk]
  omega
/-- A row of structs, opened. -/
theorem rows_open {α : Type} (g : α → List Value) (K : Nat) (hK0 : 0 < K) (Q : α → DataW H → Prop) {t e : TypeId} (ht : Tryz.prog.underlying t = some (.slice e)) (hK : Tryz.prog.cellsOf e = K) (hg : ∀ x, (g x).length = K)
    (hel : ∀ (n : Nat) (cs : List Value) (y : DataW H × List MemPlace), DataW.trod enc Tryz.prog W 0 spare held n e cs = some y → ∃ x, cs = g x ∧ Q x y.1) {fuel : Nat} {v : Value} {y : DataW H × List MemPlace} (hf : DataW.trod enc Tryz.prog W 0 spare held fuel t [v] = some y) :
    ∃ (a : Option Addr) (cap : Nat) (xs : List α), v = .slice a xs.length cap ∧ RowS W AnyZ K v xs.length (xs.flatMap g) ∧ xs.length + 1 ≤ Rows.uptoBulk y.1 ∧ ∀ x ∈ xs, ∃ d, Q x d ∧ Rows.uptoBulk d ≤ Rows.uptoBulk y.1 := by
  rcases open_slice ht hf with ⟨hcs, rfl⟩ | ⟨a, len, cap, m, n, D, Pl, hcs, _, hl, hm, hmm, rfl, hx⟩
  · simp at hcs
    subst hcs
    exact ⟨none, 0, [], rfl, rowS_nil _ _ _, by simp [Rows.uptoBulk], fun x hx => by cases hx⟩
  · simp at hcs
    subst hcs
    rw [hK] at hx
    have hlm : len ≤ m := by rw [hmm]; split <;> omega
    have hc : ∀ i, i < len → ∃ x : α, W.cells? 0 (a.add (i * K)) K = some (g x) ∧ Q x (D i) := fun i hi => by
      obtain ⟨cs', h1, h2⟩ := hx i (by omega)
      obtain ⟨x, rfl, hq⟩ := hel _ _ _ h2
      exact ⟨x, h1, hq⟩
    obtain ⟨xs, hxl, hxs⟩ : ∃ xs : List α, xs.length = len ∧ ∀ i (h : i < xs.length), W.cells? 0 (a.add (i * K)) K = some (g xs[i]) ∧ Q xs[i] (D i) := by
      clear hx hl hlm hmm hf
      induction len with
      | zero => exact ⟨[], rfl, fun i h => by simp at h⟩
      | succ k ih =>
        obtain ⟨xs, h1, h2⟩ := ih (fun i hi => hc i (by omega))
        obtain ⟨x, h3, h4⟩ := hc k (by omega)
        refine ⟨xs ++ [x], by simp [h1], fun i h => ?_⟩
        by_cases e : i < xs.length
        · rw [List.getElem_append_left e]; exact h2 i e
        · have ei : i = k := by simp at h; omega
          subst ei
          rw [List.getElem_append_right (by omega)]
          simp [h1, h3, h4]
    subst hxl
    have hb : ∀ i, i < xs.length → D i ∈ (List.range xs.length).map D := fun i hi => List.mem_map.2 ⟨i, List.mem_range.2 hi, rfl⟩
    refine ⟨some a, cap, xs, rfl, ⟨some a, cap, rfl, flatM_len hg xs, hl, by unfold maxLen at hm; omega, ?_⟩, ?_, fun x hxm => ?_⟩
    · by_cases h0 : xs.length = 0
      · exact .inl ⟨h0, fun e => by cases e⟩
      · obtain ⟨b, off, spot⟩ := a
        have hspot : spot = none := by
          have h1 := (World.cells?_some (hxs 0 (by omega)).1).2.2 0 hK0
          have h2 : (g xs[0])[0]? = some ((g xs[0])[0]'(by rw [hg]; exact hK0)) := by simp
          rw [h2] at h1
          simpa [Addr.add] using World.cell?_spot h1
        subst hspot
        refine .inr ⟨b, off, rfl, trivial, fun j u hu => ?_⟩
        have hj : j < xs.length * K := by rw [← flatM_len hg xs]; exact (List.getElem?_eq_some_iff.1 hu).1
        have hi : j / K < xs.length := (Nat.div_lt_iff_lt_mul hK0).2 hj
        have hr : j % K < K := Nat.mod_lt _ hK0
        have hjj : j / K * K + j % K = j := by rw [Nat.mul_comm]; exact Nat.div_add_mod j K
        have h2 : (g xs[j / K])[j % K]? = some ((g xs[j / K])[j % K]'(by rw [hg]; exact hr)) := by simp
        have h3 := flatM_get hg xs (j / K) (j % K) xs[j / K] _ (by simp [hi]) h2
        rw [hjj] at h3
        rw [h3] at hu
        have h1 := (World.cells?_some (hxs (j / K) hi).1).2.2 (j % K) hr
        have hadd : ((⟨b, off, none⟩ : Addr).add (j / K * K)).add (j % K) = ⟨b, off + j, none⟩ := by
          have e1 : ∀ (o i : Nat), (⟨b, o, none⟩ : Addr).add i = ⟨b, o + i, none⟩ := fun o i => by unfold Addr.add; split <;> simp_all
          rw [e1, e1, Nat.add_assoc, hjj]
        rw [hadd, h2] at h1
        rw [h1]
        exact hu
    · simp only [Rows.uptoBulk]
      have := bulk_length ((List.range xs.length).map D)
      simp at this
      omega
    · obtain ⟨i, hi, rfl⟩ := List.mem_iff_getElem.1 hxm
      refine ⟨D i, (hxs i hi).2, ?_⟩
      have := bulk_mem (hb i hi)
      simp only [Rows.uptoBulk]
      omega
/-- What a text that was read is. -/
def okX (b : Nat) (x : List Int) : Prop := TxA x ∧ x.length + 1 ≤ b
theorem str_open {n : Nat} {v : Value} {y : DataW H × List MemPlace} (h : DataW.trod enc Tryz.prog W 0 spare held n 9 [v] = some y) : ∃ x : List Int, v = .string (strOfNums x) ∧ okX (Rows.uptoBulk y.1) x := by
  obtain ⟨s, e, rfl, hs⟩ := DataW.trod_string Tryz.underlying9 h
  simp at e
  subst e
  refine ⟨numsS s, by rw [numsS_str], ⟨numsS_bd s, ?_⟩, ?_⟩
  · rw [numsS_len]
    unfold maxLen at hs
    simpa using hs
  · rw [numsS_len]
    simp [Rows.uptoBulk]
theorem int_open {n : Nat} {v : Value} {y : DataW H × List MemPlace} (h : DataW.trod enc Tryz.prog W 0 spare held n 3 [v] = some y) : ∃ x : Int, v = .int .i64 x ∧ I64 x := by
  obtain ⟨x, e, rfl, hs⟩ := DataW.trod_int Tryz.underlying3 h
  simp at e
  subst e
  refine ⟨x, rfl, ?_⟩
  unfold I64
  simp [Lit.wf, IntKind.min, IntKind.max, IntKind.signed, IntKind.bits] at hs
  omega
end
end Go.Proofs.YtmfaakimhgkedaaGreatDoor
