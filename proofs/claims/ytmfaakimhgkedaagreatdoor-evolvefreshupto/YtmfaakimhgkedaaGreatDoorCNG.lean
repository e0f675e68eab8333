/-
  A table is good: what the document answers.
  Both answers about names are one.
  Both answers about an enum are one.
  Both answers about a message are one.
  Both answers about a table are one.
  EvolveFresh: a message's new numbers; any two kinds.
  EvolveFresh, round what comes in.
-/
import Derived.Test.YtmfaakimhgkedaaGreatDoorCND
import Derived.Test.YtmfaakimhgkedaaGreatDoorNF
import Derived.Test.YtmfaakimhgkedaaGreatDoorCTP
import Derived.Test.YtmfaakimhgkedaaGreatDoorCEV14
import Derived.Test.YtmfaakimhgkedaaGreatDoorCEV1
import Derived.Test.YtmfaakimhgkedaaGreatDoorCTY
namespace Go.Proofs.YtmfaakimhgkedaaGreatDoor
open Go.RowKit
set_option maxRecDepth 1000000
set_option linter.unusedVariables false
set_option linter.unusedSimpArgs false
set_option maxHeartbeats 1000000
def gtD (l : List TV) (i : Nat) (t : TT) : Bool := nmdB l i t && (if t.enum = true then enmB t else msgD l t)
def gdA (l : List TV) : Nat → List TV → Bool
  | _, [] => true
  | i, x :: r => gtD l i x.t && gdA l (i + 1) r
def goodD (l : List TV) : Bool := decide (l.length ≤ 128) && gdA l 0 l
theorem goodR (w : World) (l : List TV) (ta : Option Addr) (tc : Nat) (h : TbR w (.slice ta l.length tc) l) (hk : ∀ x ∈ l, OkV x) (hz : ∀ x ∈ l, x.t.name.length < 4000000) : Calls Tryz.prog 8 #[.agg #[.slice ta l.length tc]] w fun e w' => e = .returned (.bool (goodD l)) ∧ Below w.heap.size w w' := by
  obtain ⟨_, _, e, hn⟩ := rowS_sl h.row
  clear e
  have h1 : (l.length : Int) ≤ 9223372036854775807 := by omega
  have HT := hid h
  have HK := hid hk
  have HZ := hid hz
  clear h hk hz
  have HX : Hid (goodD l = (decide (l.length ≤ 128) && gdA l 0 l)) := hid rfl
  generalize goodD l = res at *
  by_cases hbig : 128 < l.length
  case pos =>
    have h2 : (128 : Int) < (l.length : Int) := by omega
    have HE : Hid (res = false) := hid (by rw [HX.out, decide_eq_false (by omega)]; rfl)
    go_enter Tryz.func8, Tryz.ntmps8
    go_wp2
    go_ret
    exact ⟨ret_bool HE.out.symm, by exact blBy⟩
  have h2 : ¬ (128 : Int) < (l.length : Int) := by omega
  replace HX := hid (show res = gdA l 0 l by rw [HX.out, decide_eq_true (by omega)]; rfl)
  go_enter Tryz.func8, Tryz.ntmps8
  go_wp2
  go_loopw [3] (fun r wr => ∃ i : Nat, r = .int .i64 i ∧ i ≤ l.length ∧ Hid (res = gdA l i (l.drop i)) ∧ Hid (Blk wr w.heap.size 24 #[.slice ta l.length tc]) ∧ Hid (Below w.heap.size w wr)) (fun r wr => l.length - numAt wr r)
  case atStart => exact ⟨0, rfl, by omega, HX, hid (Blk.new _ _ _), hid (by exact blBy)⟩
  case round =>
    clear HX
    obtain ⟨i, rfl, hi, HX, Ba, hb⟩ := hrel
    have xa := Ba.out.cellF
    have za := Ba.out.lt
    by_cases hlt : i < l.length
    case neg =>
      have h3 : ¬ (i : Int) < (l.length : Int) := by omega
      have HE : Hid (res = true) := hid (by rw [HX.out, List.drop_of_length_le (by omega)]; rfl)
      go_wp2
      go_ret
      exact ⟨ret_bool HE.out.symm, hb.out⟩
    have h3 : (i : Int) < (l.length : Int) := by omega
    have HST : Hid (gdA l i (l.drop i) = (gtD l i l[i].t && gdA l (i + 1) (l.drop (i + 1)))) := hid (by rw [List.drop_eq_getElem_cons hlt, gdA])
    rw [HST.out] at HX
    clear HST
    have HTY := hid (HT.out.ty _ (List.getElem_mem hlt))
    have HOK := hid (HK.out _ (List.getElem_mem hlt))
    have HNM : Hid (∀ W, Below w.heap.size w W → Calls Tryz.prog 27 #[.agg #[.slice ta l.length tc], .int .i64 (i : Int)] W fun e w' => e = .returned (.bool (nmdB l i l[i].t)) ∧ Below W.heap.size W w') := hid fun W hW => namedR W l ta tc i (HT.out.kept hW) (fun x hx => (HK.out x hx).ok.nm) HZ.out hlt
    obtain ⟨tb, tof, rfl, hbl, c0, c1, c2, c3, c4, c5⟩ := row6 (HT.out.row.kept hb.out) hlt
    generalize l[i] = x at *
    obtain ⟨t, f, o, s, r⟩ := x
    obtain ⟨fa, fc, ef, -⟩ := rowS_sl HTY.out.f
    obtain ⟨oa, oc, eo, -⟩ := rowS_sl HTY.out.o
    obtain ⟨sa, sc, es, -⟩ := rowS_sl HTY.out.s
    obtain ⟨ra, rc, er, -⟩ := rowS_sl HTY.out.r
    dsimp only at ef eo es er
    subst ef eo es er
    dsimp only at c0 c1 c2 c3 c4 c5 HX HNM
    go_wp2_with fail
    have Bx : Blk (wr.alloc (.cells #[.string (strOfNums t.name), .bool t.enum, .slice fa t.fs.length fc, .slice oa t.os.length oc, .slice sa t.ss.length sc, .slice ra t.rs.length rc] 50)) wr.heap.size 50 #[.string (strOfNums t.name), .bool t.enum, .slice fa t.fs.length fc, .slice oa t.os.length oc, .slice sa t.ss.length sc, .slice ra t.rs.length rc] := Blk.new _ _ _
    have Ba1 := Ba.out.kept (below_alloc (w := wr) (.cells #[.string (strOfNums t.name), .bool t.enum, .slice fa t.fs.length fc, .slice oa t.os.length oc, .slice sa t.ss.length sc, .slice ra t.rs.length rc] 50))
    have hb1 : Hid (Below w.heap.size w (wr.alloc (.cells #[.string (strOfNums t.name), .bool t.enum, .slice fa t.fs.length fc, .slice oa t.os.length oc, .slice sa t.ss.length sc, .slice ra t.rs.length rc] 50))) := hid (by have := hb.out; exact blBy)
    refine (HNM.out _ hb1.out).mono ?_
    rintro e w1 ⟨rfl, hb2⟩
    replace Ba1 := Ba1.kept hb2
    replace Bx := Bx.kept hb2
    replace hb2 : Hid (Below w.heap.size w w1) := hid (bl_then hb1.out hb2)
    have HBA := hid Ba1
    have HBX := hid Bx
    clear xa za Ba c0 c1 c2 c3 c4 c5 hbl
    have xa := Ba1.cellF
    have za := Ba1.lt
    have xx := Bx.cellF
    have zx := Bx.lt
    clear Ba1 Bx hb1 hb
    generalize wr.heap.size = xp at *
    have HD : Hid (gtD l i t = (nmdB l i t && (if t.enum = true then enmB t else msgD l t))) := hid rfl
    rw [HD.out] at HX
    cases q0 : nmdB l i t with
    | false =>
      have HE : Hid (res = false) := hid (by rw [HX.out, q0]; rfl)
      go_wp2
      go_ret
      exact ⟨ret_bool HE.out.symm, hb2.out⟩
    | true =>
    replace HX := hid (show res = ((if t.enum = true then enmB t else msgD l t) && gdA l (i + 1) (l.drop (i + 1))) by rw [HX.out, q0]; rfl)
    cases qe : t.enum with
    | true =>
      have HEN : Hid (∀ W, Below w.heap.size w W → Calls Tryz.prog 28 #[.agg #[.string (strOfNums t.name), .bool true, .slice fa t.fs.length fc, .slice oa t.os.length oc, .slice sa t.ss.length sc, .slice ra t.rs.length rc]] W fun e w' => e = .returned (.bool (enmB t)) ∧ Below W.heap.size W w') := hid (fun W hW => by have := enumR W t fa oa sa ra fc oc sc rc (HTY.out.kept hW) (fun x hx => (HOK.out.ok.ss x hx).1); rw [qe] at this; exact this)
      replace HX := hid (show res = (enmB t && gdA l (i + 1) (l.drop (i + 1))) by rw [HX.out, qe]; rfl)
      go_wp2_with fail
      refine (HEN.out _ (by have := hb2.out; exact blBy)).mono ?_
      rintro e w2 ⟨rfl, hb3⟩
      have HBA2 := hid (HBA.out.kept hb3)
      have HBX2 := hid (HBX.out.kept hb3)
      replace hb3 : Hid (Below w.heap.size w w2) := hid (bl_then hb2.out hb3)
      clear xa za xx zx
      have xa := HBA2.out.cellF
      have za := HBA2.out.lt
      have xx := HBX2.out.cellF
      have zx := HBX2.out.lt
      cases q1 : enmB t with
      | false =>
        have HE : Hid (res = false) := hid (by rw [HX.out, q1]; rfl)
        go_wp2
        go_ret
        exact ⟨ret_bool HE.out.symm, hb3.out⟩
      | true =>
        have HE : Hid (res = gdA l (i + 1) (l.drop (i + 1))) := hid (by rw [HX.out, q1]; rfl)
        go_wp2
        exact ⟨⟨i + 1, by simp, by omega, HE, HBA2, hb3⟩, by simp [numAt]; omega⟩
    | false =>
      have HEN : Hid (∀ W, Below w.heap.size w W → Calls Tryz.prog 29 #[.agg #[.slice (some ⟨tb, tof, none⟩) l.length tc], .agg #[.string (strOfNums t.name), .bool false, .slice fa t.fs.length fc, .slice oa t.os.length oc, .slice sa t.ss.length sc, .slice ra t.rs.length rc]] W fun e w' => e = .returned (.bool (msgD l t)) ∧ Below W.heap.size W w') := hid (fun W hW => by have := messageR W l _ tc t fa oa sa ra fc oc sc rc (HT.out.kept hW) (HTY.out.kept hW) HOK.out.ok; rw [qe] at this; exact this)
      replace HX := hid (show res = (msgD l t && gdA l (i + 1) (l.drop (i + 1))) by rw [HX.out, qe]; rfl)
      go_wp2_with fail
      refine (HEN.out _ (by have := hb2.out; exact blBy)).mono ?_
      rintro e w2 ⟨rfl, hb3⟩
      have HBA2 := hid (HBA.out.kept hb3)
      have HBX2 := hid (HBX.out.kept hb3)
      replace hb3 : Hid (Below w.heap.size w w2) := hid (bl_then hb2.out hb3)
      clear xa za xx zx
      have xa := HBA2.out.cellF
      have za := HBA2.out.lt
      have xx := HBX2.out.cellF
      have zx := HBX2.out.lt
      cases q1 : msgD l t with
      | false =>
        have HE : Hid (res = false) := hid (by rw [HX.out, q1]; rfl)
        go_wp2
        go_ret
        exact ⟨ret_bool HE.out.symm, hb3.out⟩
      | true =>
        have HE : Hid (res = gdA l (i + 1) (l.drop (i + 1))) := hid (by rw [HX.out, q1]; rfl)
        go_wp2
        exact ⟨⟨i + 1, by simp, by omega, HE, HBA2, hb3⟩, by simp [numAt]; omega⟩
end Go.Proofs.YtmfaakimhgkedaaGreatDoor
namespace Go.Proofs.YtmfaakimhgkedaaGreatDoor
open Go.RowKit
set_option maxRecDepth 1000000
set_option linter.unusedVariables false
set_option linter.unusedSimpArgs false
set_option maxHeartbeats 1000000
theorem byteAt {x : List Int} (hb : ∀ c ∈ x, 0 ≤ c ∧ c ≤ 255) {j : Nat} (hj : j < x.length) : (((strOfNums x).data[j]!).toNat : Int) = x[j] := by
  have hs : j < (strOfNums x).data.size := by have := strOfNums_size x; rw [ByteArray.size] at this; omega
  rw [getElem!_pos (strOfNums x).data j hs]
  have e : (strOfNums x).data[j] = UInt8.ofNat (x[j]).toNat := by simp [strOfNums]
  have := hb _ (List.getElem_mem hj)
  rw [e, UInt8.toNat_ofNat']
  omega
theorem lastD_spec {x : List Int} (hb : ∀ c ∈ x, 0 ≤ c ∧ c ≤ 255) : (lastD x = -1 ∧ ∀ c ∈ x, c ≠ 46) ∨ ∃ a b : List Int, x = a ++ 46 :: b ∧ (∀ c ∈ b, c ≠ 46) ∧ lastD x = a.length := by
  rcases Lib.lastIndexByte_spec (strOfNums x) 46 with ⟨e, h⟩ | ⟨i, hi, e, h1, h2⟩
  · refine .inl ⟨e, fun c hc => ?_⟩
    obtain ⟨j, hj, rfl⟩ := List.mem_iff_getElem.1 hc
    rw [← byteAt hb hj]
    exact h j (by rw [strOfNums_size]; exact hj)
  · rw [strOfNums_size] at hi
    refine .inr ⟨x.take i, x.drop (i + 1), ?_, fun c hc => ?_, ?_⟩
    · rw [byteAt hb hi] at h1
      rw [← h1, List.getElem_cons_drop, List.take_append_drop]
    · obtain ⟨j, hj, rfl⟩ := List.mem_iff_getElem.1 hc
      rw [List.length_drop] at hj
      rw [List.getElem_drop, ← byteAt hb (show i + 1 + j < x.length by omega)]
      exact h2 _ (by omega) (by rw [strOfNums_size]; omega)
    · rw [List.length_take, Nat.min_eq_left (by omega)]; exact e
theorem cutI_app : ∀ (a b : List Int), cutI (a ++ 46 :: b) = cutI a ++ cutI b
  | [], b => by simp [cutI]
  | c :: r, b => by
    rw [List.cons_append, cutI, cutI, cutI_app r b]
    obtain ⟨p, q, e⟩ := cutI_ne r
    rw [e]
    split <;> rfl
theorem headA_find (hd : List Int) : ∀ l : List TV, headA hd l = (match l.find? (fun v => v.t.name == hd) with
  | none => false
  | some v => !v.t.enum)
  | [] => rfl
  | v :: r => by
    rw [headA, List.find?_cons, headA_find hd r]
    by_cases h : v.t.name = hd
    · rw [show nameP hd v = true from decide_eq_true h, show (v.t.name == hd) = true by simpa using h]; rfl
    · rw [show nameP hd v = false from decide_eq_false h, show (v.t.name == hd) = false by simpa using h]; rfl
theorem standEq (l : List TV) (i : Nat) {x : List Int} (hb : ∀ c ∈ x, 0 ≤ c ∧ c ≤ 255) : standB l i x = (decide ((cutI x).length = 1) || headA (x.take (hdN x)) (l.take i)) := by
  rcases lastD_spec hb with ⟨e, h⟩ | ⟨a, b, rfl, h, e⟩
  · rw [cutI_none x h]
    unfold standB
    rw [if_pos (by rw [e]; omega)]
    rfl
  · have ec : cutI (a ++ 46 :: b) = cutI a ++ [b] := by rw [cutI_app, cutI_none b h]
    have hl : 1 ≤ (cutI a).length := by rw [cutI_len]; omega
    have el : lastP (a ++ 46 :: b) = b := by unfold lastP; rw [ec]; simp
    have eh : hdN (a ++ 46 :: b) = a.length := by unfold hdN; rw [el]; simp; omega
    unfold standB
    rw [if_neg (by rw [e]; omega), e, Int.toNat_natCast, headA_find, eh, decide_eq_false (by rw [ec, List.length_append]; simp only [List.length_cons, List.length_nil]; omega)]
    simp only [Bool.false_or]
    cases List.find? (fun v => v.t.name == List.take a.length (a ++ 46 :: b)) (List.take i l) <;> rfl
theorem any_name (l : List TV) (x : List Int) : l.any (nameP x) = named l x := by
  unfold named
  congr 1
  funext v
  unfold nameP
  by_cases h : v.t.name = x <;> simp [h]
theorem nmdEq (l : List TV) (i : Nat) (t : TT) (hb : ∀ c ∈ t.name, 0 ≤ c ∧ c ≤ 255) : nmdB l i t = (!named (l.take i) t.name && (fullB t && standB l i t.name)) := by
  unfold nmdB fullB
  rw [any_name, standEq l i hb, Bool.and_assoc]
  congr 2
  rw [cutI_len]
  split <;> (congr 1; try (apply propext; omega))
end Go.Proofs.YtmfaakimhgkedaaGreatDoor
namespace Go.Proofs.YtmfaakimhgkedaaGreatDoor
open Go.RowKit
set_option maxRecDepth 1000000
set_option linter.unusedVariables false
set_option linter.unusedSimpArgs false
set_option maxHeartbeats 1000000
theorem pw_and {α : Type} {R S : α → α → Prop} : ∀ l : List α, l.Pairwise (fun a b => R a b ∧ S a b) ↔ l.Pairwise R ∧ l.Pairwise S
  | [] => by simp
  | x :: r => by
    rw [List.pairwise_cons, List.pairwise_cons, List.pairwise_cons, pw_and r]
    constructor
    · rintro ⟨h1, h2, h3⟩
      exact ⟨⟨fun a ha => (h1 a ha).1, h2⟩, fun a ha => (h1 a ha).2, h3⟩
    · rintro ⟨⟨h1, h2⟩, h3, h4⟩
      exact ⟨fun a ha => ⟨h1 a ha, h3 a ha⟩, h2, h4⟩
theorem enmA_iff : ∀ (r pre : List SY), enmA pre r = true ↔ (∀ s ∈ r, nmB s.name = true ∧ 0 ≤ s.num ∧ s.num < 2147483648) ∧ r.Pairwise (fun a b => a.name ≠ b.name ∧ a.num ≠ b.num) ∧ ∀ p ∈ pre, ∀ s ∈ r, p.name ≠ s.name ∧ p.num ≠ s.num
  | [], pre => by simp [enmA]
  | s :: r, pre => by
    rw [enmA, Bool.and_eq_true, Bool.and_eq_true, Bool.and_eq_true, enmA_iff r (pre ++ [s]), decide_eq_true_eq, List.pairwise_cons]
    have hd : ((!pre.any (dupP s)) = true) ↔ ∀ p ∈ pre, p.name ≠ s.name ∧ p.num ≠ s.num := by
      rw [Bool.not_eq_true', List.any_eq_false]
      constructor
      · intro h p hp
        have := h p hp
        unfold dupP at this
        simp at this
        exact this
      · intro h p hp
        have := h p hp
        unfold dupP
        simp
        exact this
    rw [hd]
    constructor
    · rintro ⟨h1, h2, h3, h4, h5, h6⟩
      refine ⟨fun x hx => ?_, ⟨fun x hx => h6 s (by simp) x hx, h5⟩, fun p hp x hx => ?_⟩
      · rcases List.mem_cons.1 hx with rfl | hx
        · exact ⟨h1, h2⟩
        · exact h4 x hx
      · rcases List.mem_cons.1 hx with rfl | hx
        · exact h3 p hp
        · exact h6 p (by simp [hp]) x hx
    · rintro ⟨h1, ⟨h2, h3⟩, h4⟩
      refine ⟨(h1 s (by simp)).1, (h1 s (by simp)).2, fun p hp => h4 p hp s (by simp), fun x hx => h1 x (by simp [hx]), h3, fun p hp x hx => ?_⟩
      rcases List.mem_append.1 hp with hp | hp
      · exact h4 p hp x (by simp [hx])
      · simp at hp; subst hp; exact h2 x hx
theorem isKeyS (x : List Int) : WideAt.IsKeyLit (litS x) := trivial
theorem isKeyI (x : Int) : WideAt.IsKeyLit (litI x) := trivial
theorem dfS_iff {ns : List (List Int)} (ht : ∀ x ∈ ns, TxA x) : dfB (ns.map litS) = true ↔ ns.Pairwise (· ≠ ·) := by
  rw [dfB_iff _ (fun x hx => by obtain ⟨y, _, rfl⟩ := List.mem_map.1 hx; exact isKeyS y), List.Nodup, List.pairwise_map]
  exact List.Pairwise.iff_of_mem (fun ha hb => ⟨fun h e => h (by rw [e]), fun h e => h (litS_inj (ht _ ha) (ht _ hb) e)⟩)
theorem dfI_iff (ns : List Int) : dfB (ns.map litI) = true ↔ ns.Pairwise (· ≠ ·) := by
  rw [dfB_iff _ (fun x hx => by obtain ⟨y, _, rfl⟩ := List.mem_map.1 hx; exact isKeyI y), List.Nodup, List.pairwise_map]
  exact List.Pairwise.iff_of_mem (fun ha hb => ⟨fun h e => h (by rw [e]), fun h e => h (by unfold litI at e; injection e)⟩)
theorem enumEq (t : TT) (hk : ∀ x ∈ t.ss, TxA x.name) : enmB t = (decide (t.fs.length + t.os.length + t.rs.length = 0) && symB t.ss) := by
  rw [Bool.eq_iff_iff]
  unfold enmB
  cases hs : t.ss with
  | nil => simp [symB]
  | cons s r =>
    rw [hs] at hk
    rw [symB_is (by simp)]
    simp only [Bool.and_eq_true, decide_eq_true_eq, enmA_iff, List.length_cons, List.getElem?_cons_zero, Option.map_some, Option.getD_some, List.getElem_cons_zero]
    rw [dfS_iff (fun x hx => by obtain ⟨y, hy, rfl⟩ := List.mem_map.1 hx; exact hk y hy), dfI_iff, List.pairwise_map, List.pairwise_map, pw_and, List.all_eq_true, List.all_eq_true]
    constructor
    · rintro ⟨⟨h1, h2⟩, h3, h4, h5, h6, h7, ⟨h8, h9⟩, h10⟩
      refine ⟨by omega, h2, h3, fun x hx => ?_, fun x hx => ?_, h8, h9⟩
      · have := (h7 x hx).2; simp; omega
      · obtain ⟨y, hy, rfl⟩ := List.mem_map.1 hx; exact (h7 y hy).1
    · rintro ⟨h1, h2, h3, h4, h5, h6, h7⟩
      refine ⟨⟨by omega, h2⟩, h3, by omega, by omega, by omega, fun x hx => ⟨h5 _ (List.mem_map.2 ⟨x, hx, rfl⟩), ?_⟩, ⟨h6, h7⟩, by simp⟩
      have := h4 x hx
      simp at this
      omega
end Go.Proofs.YtmfaakimhgkedaaGreatDoor
namespace Go.Proofs.YtmfaakimhgkedaaGreatDoor
open Go.RowKit
set_option maxRecDepth 1000000
set_option linter.unusedVariables false
set_option linter.unusedSimpArgs false
set_option maxHeartbeats 1000000
theorem nmsA_iff : ∀ (r pre : List (List Int)), nmsA pre r = true ↔ (∀ s ∈ r, nmB s = true) ∧ r.Pairwise (· ≠ ·) ∧ ∀ p ∈ pre, ∀ s ∈ r, p ≠ s
  | [], pre => by simp [nmsA]
  | s :: r, pre => by
    rw [nmsA, Bool.and_eq_true, Bool.and_eq_true, nmsA_iff r (pre ++ [s]), List.pairwise_cons]
    have hd : ((!pre.any (sameP s)) = true) ↔ ∀ p ∈ pre, p ≠ s := by
      rw [Bool.not_eq_true', List.any_eq_false]
      constructor
      · intro h p hp e
        exact h p hp (decide_eq_true e.symm)
      · intro h p hp q
        exact h p hp (of_decide_eq_true q).symm
    rw [hd]
    constructor
    · rintro ⟨h1, h3, h4, h5, h6⟩
      refine ⟨fun x hx => ?_, ⟨fun x hx => h6 s (by simp) x hx, h5⟩, fun p hp x hx => ?_⟩
      · rcases List.mem_cons.1 hx with rfl | hx
        · exact h1
        · exact h4 x hx
      · rcases List.mem_cons.1 hx with rfl | hx
        · exact h3 p hp
        · exact h6 p (by simp [hp]) x hx
    · rintro ⟨h1, ⟨h2, h3⟩, h4⟩
      refine ⟨h1 s (by simp), fun p hp => h4 p hp s (by simp), fun x hx => h1 x (by simp [hx]), h3, fun p hp x hx => ?_⟩
      rcases List.mem_append.1 hp with hp | hp
      · exact h4 p hp x (by simp [hx])
      · simp at hp; subst hp; exact h2 x hx
theorem riseA_iff : ∀ (fs : List FT) (z : Int), riseA fs z = true ↔ z ≤ 536870911 ∧ fs.Pairwise (fun a b => a.num < b.num) ∧ ∀ f ∈ fs, z < f.num ∧ f.num ≤ 536870911
  | [], z => by simp [riseA]
  | f :: r, z => by
    rw [riseA, List.pairwise_cons]
    by_cases h : f.num ≤ z
    · rw [if_pos h]
      constructor
      · intro q; cases q
      · rintro ⟨_, _, h2⟩
        have := h2 f (by simp)
        omega
    · rw [if_neg h, riseA_iff r f.num]
      constructor
      · rintro ⟨h1, h2, h3⟩
        refine ⟨by omega, ⟨fun g hg => (h3 g hg).1, h2⟩, fun g hg => ?_⟩
        rcases List.mem_cons.1 hg with rfl | hg
        · omega
        · have := h3 g hg; omega
      · rintro ⟨h1, ⟨h2, h3⟩, h4⟩
        exact ⟨(h4 f (by simp)).2, h3, fun g hg => ⟨h2 g hg, (h4 g (by simp [hg])).2⟩⟩
theorem flA_iff (l : List TV) (k : Nat) (rs : List RG) (fs : List FT) : ∀ (n i : Nat), i + n = fs.length → (flA l k rs fs i (fs.drop i) = true ↔ (∀ f ∈ fs.drop i, docB l k f = true ∧ rs.all (outP f.num) = true) ∧ (fs.drop i).Pairwise (fun a b => a.num < b.num) ∧ (i = 0 ∨ ∀ f ∈ fs.drop i, (fs[i - 1]?.map FT.num).getD 0 < f.num))
  | 0, i, h => by
    rw [List.drop_of_length_le (by omega)]
    simp [flA]
  | n + 1, i, h => by
    have hi : i < fs.length := by omega
    rw [List.drop_eq_getElem_cons hi, flA, Bool.and_eq_true, Bool.and_eq_true, Bool.and_eq_true, flA_iff l k rs fs n (i + 1) (by omega), List.pairwise_cons]
    have e : (fs[i + 1 - 1]?.map FT.num).getD 0 = fs[i].num := by rw [Nat.add_sub_cancel, List.getElem?_eq_getElem hi]; rfl
    rw [e]
    unfold riseP
    rw [decide_eq_true_eq]
    generalize (fs[i - 1]?.map FT.num).getD 0 = pv
    generalize fs[i] = f
    generalize fs.drop (i + 1) = r
    constructor
    · rintro ⟨h1, h2, h3, h4, h5, h6⟩
      have h6' : ∀ g ∈ r, f.num < g.num := fun g hg => by rcases h6 with h6 | h6; omega; exact h6 g hg
      refine ⟨fun g hg => ?_, ⟨h6', h5⟩, ?_⟩
      · rcases List.mem_cons.1 hg with rfl | hg
        · exact ⟨h1, h3⟩
        · exact h4 g hg
      · rcases h2 with h2 | h2
        · exact .inl h2
        · refine .inr fun g hg => ?_
          rcases List.mem_cons.1 hg with rfl | hg
          · exact h2
          · have := h6' g hg; omega
    · rintro ⟨h1, ⟨h2, h3⟩, h4⟩
      exact ⟨(h1 f (by simp)).1, h4.imp id (fun q => q f (by simp)), (h1 f (by simp)).2, fun g hg => h1 g (by simp [hg]), h3, .inr h2⟩
theorem rgA_iff (rs : List RG) : ∀ (n i : Nat), i + n = rs.length → (rgA rs i (rs.drop i) = true ↔ (∀ g ∈ rs.drop i, 1 ≤ g.lo ∧ g.hi ≤ 536870911 ∧ g.lo ≤ g.hi) ∧ (rs.drop i).Pairwise (fun a b => a.hi < b.lo) ∧ (i = 0 ∨ ∀ g ∈ rs.drop i, (rs[i - 1]?.map RG.hi).getD 0 < g.lo))
  | 0, i, h => by
    rw [List.drop_of_length_le (by omega)]
    simp [rgA]
  | n + 1, i, h => by
    have hi : i < rs.length := by omega
    rw [List.drop_eq_getElem_cons hi, rgA, Bool.and_eq_true, rgA_iff rs n (i + 1) (by omega), List.pairwise_cons]
    have e : (rs[i + 1 - 1]?.map RG.hi).getD 0 = rs[i].hi := by rw [Nat.add_sub_cancel, List.getElem?_eq_getElem hi]; rfl
    rw [e]
    unfold rgP
    rw [Bool.and_eq_true, Bool.and_eq_true, Bool.and_eq_true, decide_eq_true_eq, decide_eq_true_eq, decide_eq_true_eq, decide_eq_true_eq]
    generalize (rs[i - 1]?.map RG.hi).getD 0 = pv
    generalize rs[i] = f
    generalize rs.drop (i + 1) = r
    constructor
    · rintro ⟨⟨h1, h2, h3, h0⟩, h4, h5, h6⟩
      have h6' : ∀ g ∈ r, f.hi < g.lo := fun g hg => by rcases h6 with h6 | h6; omega; exact h6 g hg
      refine ⟨fun g hg => ?_, ⟨h6', h5⟩, ?_⟩
      · rcases List.mem_cons.1 hg with rfl | hg
        · exact ⟨h1, h2, h3⟩
        · exact h4 g hg
      · rcases h0 with h2 | h2
        · exact .inl h2
        · refine .inr fun g hg => ?_
          rcases List.mem_cons.1 hg with rfl | hg
          · exact h2
          · have := h6' g hg; omega
    · rintro ⟨h1, ⟨h2, h3⟩, h4⟩
      have := h1 f (by simp)
      exact ⟨⟨this.1, this.2.1, this.2.2, h4.imp id (fun q => q f (by simp))⟩, fun g hg => h1 g (by simp [hg]), h3, .inr h2⟩
theorem freeA_iff (fs : List FT) : ∀ (rs : List RG) (z : Int), freeA fs rs z = true ↔ z ≤ 536870911 ∧ (∀ g ∈ rs, z < g.lo ∧ g.hi ≤ 536870911 ∧ g.lo ≤ g.hi ∧ hitB fs g = false) ∧ rs.Pairwise (fun a b => a.hi < b.lo)
  | [], z => by simp [freeA]
  | g :: r, z => by
    rw [freeA, List.pairwise_cons]
    by_cases h : g.lo ≤ z ∨ g.hi < g.lo
    · rw [if_pos h]
      constructor
      · intro q; cases q
      · rintro ⟨_, h2, _⟩
        have := h2 g (by simp)
        omega
    · rw [if_neg h]
      cases hh : hitB fs g with
      | true =>
        rw [if_pos rfl]
        constructor
        · intro q; cases q
        · rintro ⟨_, h2, _⟩
          have := (h2 g (by simp)).2.2.2
          rw [hh] at this; cases this
      | false =>
        rw [if_neg (by simp), freeA_iff fs r g.hi]
        constructor
        · rintro ⟨h1, h2, h3⟩
          refine ⟨by omega, fun x hx => ?_, fun x hx => (h2 x hx).1, h3⟩
          rcases List.mem_cons.1 hx with rfl | hx
          · exact ⟨by omega, h1, by omega, hh⟩
          · have := h2 x hx; exact ⟨by omega, this.2⟩
        · rintro ⟨h1, h2, h3, h4⟩
          exact ⟨(h2 g (by simp)).2.1, fun x hx => ⟨h3 x hx, (h2 x (by simp [hx])).2⟩, h4⟩
theorem hit_out (fs : List FT) (rs : List RG) : (∀ g ∈ rs, hitB fs g = false) ↔ ∀ f ∈ fs, rs.all (outP f.num) = true := by
  unfold hitB outP
  simp only [List.any_eq_false, List.all_eq_true, decide_eq_true_eq, Bool.not_eq_true', decide_eq_false_iff_not]
  exact ⟨fun h f hf g hg => h g hg f hf, fun h g hg f hf => h f hf g hg⟩
theorem messageEq (l : List TV) (t : TT) (hk : OkT t) : msgD l t = (decide (t.ss.length = 0) && msgB l t) := by
  rw [Bool.eq_iff_iff]
  have htx : ∀ x ∈ t.os ++ t.fs.map FT.name, TxA x := fun x hx => by
    rcases List.mem_append.1 hx with q | q
    · exact hk.os x q
    · obtain ⟨y, hy, rfl⟩ := List.mem_map.1 q
      exact hk.fs y hy
  unfold msgD msgB cntB nmsB
  have hf := flA_iff l t.os.length t.rs t.fs t.fs.length 0 (by omega)
  have hr := rgA_iff t.rs t.rs.length 0 (by omega)
  rw [List.drop_zero] at hf hr
  simp only [Bool.and_eq_true, decide_eq_true_eq, hf, hr, nmsA_iff, riseA_iff, freeA_iff, dfS_iff htx]
  constructor
  · rintro ⟨⟨h1, h2, h3, h4⟩, h5, ⟨h6, h7, -⟩, ⟨h8, h9, -⟩, h10, h11, -⟩
    have hd : ∀ f ∈ t.fs, (1 ≤ f.num ∧ f.num ≤ 536870911) ∧ fldB l t.os.length f = true := fun f hf => by
      have := (h6 f hf).1
      unfold docB at this
      rw [Bool.and_eq_true, decide_eq_true_eq] at this
      exact this
    refine ⟨h1, ⟨h2, h3⟩, List.all_eq_true.2 fun f hf => (hd f hf).2, ⟨by omega, h7, fun f hf => by have := (hd f hf).1; omega⟩, ⟨by omega, fun g hg => ?_, h11⟩, h5, List.all_eq_true.2 h8, h9⟩
    have := h10 g hg
    exact ⟨by omega, this.2.1, this.2.2, (hit_out t.fs t.rs).2 (fun f hf => (h6 f hf).2) g hg⟩
  · rintro ⟨h1, ⟨h2, h3⟩, h4, ⟨-, h5, h6⟩, ⟨-, h7, h8⟩, h9, h10, h11⟩
    refine ⟨⟨h1, h2, h3, mem_few h9⟩, h9, ⟨fun f hf => ⟨?_, ?_⟩, h5, .inl trivial⟩, ⟨List.all_eq_true.1 h10, h11, by simp⟩, fun g hg => ?_, h8, .inl trivial⟩
    · unfold docB
      rw [Bool.and_eq_true, decide_eq_true_eq]
      have := h6 f hf
      exact ⟨by omega, List.all_eq_true.1 h4 f hf⟩
    · exact (hit_out t.fs t.rs).1 (fun g hg => (h7 g hg).2.2.2) f hf
    · have := h7 g hg
      exact ⟨by omega, this.2.1, this.2.2.1⟩
end Go.Proofs.YtmfaakimhgkedaaGreatDoor
namespace Go.Proofs.YtmfaakimhgkedaaGreatDoor
open Go.RowKit
set_option maxRecDepth 1000000
set_option linter.unusedVariables false
set_option linter.unusedSimpArgs false
set_option maxHeartbeats 1000000
theorem stepEq (l : List TV) (i : Nat) (t : TT) (hk : OkT t) : gtD l i t = stepB l i t := by
  unfold gtD stepB typB
  rw [nmdEq l i t hk.nm.1, enumEq t (fun x hx => (hk.ss x hx).1), messageEq l t hk]
  simp only [Bool.and_assoc]
theorem goodA_eq (l : List TV) (hk : ∀ x ∈ l, OkV x) : ∀ (r : List TV) (i : Nat), (∀ x ∈ r, OkV x) → gdA l i r = goodA l r i
  | [], _, _ => rfl
  | x :: r, i, h => by rw [gdA, goodA, stepEq l i x.t (h x (by simp)).ok, goodA_eq l hk r (i + 1) (fun y hy => h y (by simp [hy]))]
theorem goodEq (l : List TV) (hk : ∀ x ∈ l, OkV x) : goodD l = goodB l := by
  unfold goodD goodB
  rw [goodA_eq l hk l 0 hk]
end Go.Proofs.YtmfaakimhgkedaaGreatDoor
namespace Go.Proofs.YtmfaakimhgkedaaGreatDoor
open Go.RowKit
set_option maxRecDepth 1000000
set_option linter.unusedVariables false
set_option linter.unusedSimpArgs false
set_option maxHeartbeats 1000000
theorem freshDR (w : World) (a b : List TV) (ta tb : Option Addr) (tc td : Nat) (ha : TbR w (.slice ta a.length tc) a) (hb : TbR w (.slice tb b.length td) b) (i k : Nat) (hi : i < a.length) (hk : k < b.length) (hl : b[k].t.fs.length ≤ 4000000) : Calls Tryz.prog 15 #[.agg #[.slice ta a.length tc], .agg #[.slice tb b.length td], .int .i64 i, .int .i64 k] w fun e w' => ∃ va vc, e = .returned (.slice va (frshL a[i].t.fs b[k].t.fs).length vc) ∧ RowS w' AnyZ 1 (.slice va (frshL a[i].t.fs b[k].t.fs).length vc) (frshL a[i].t.fs b[k].t.fs).length ((frshL a[i].t.fs b[k].t.fs).flatMap cI64) ∧ Below w.heap.size w w' := by
  have HTA := hid (ha.ty _ (List.getElem_mem hi))
  have HTB := hid (hb.ty _ (List.getElem_mem hk))
  have q1 : (i : Int) < (a.length : Int) := by omega
  have q2 : (k : Int) < (b.length : Int) := by omega
  obtain ⟨b1, o1, rfl, hb1, c0, c1, c2, c3, c4, c5⟩ := row6 ha.row hi
  obtain ⟨b2, o2, rfl, hb2, d0, d1, d2, d3, d4, d5⟩ := row6 hb.row hk
  generalize a[i] = x at *
  generalize b[k] = y at *
  obtain ⟨s, f, o, s', r⟩ := x
  obtain ⟨fa, fc, ef, -⟩ := rowS_sl HTA.out.f
  obtain ⟨oa, oc, eo, -⟩ := rowS_sl HTA.out.o
  obtain ⟨sa, sc, es, -⟩ := rowS_sl HTA.out.s
  obtain ⟨ra, rc, er, -⟩ := rowS_sl HTA.out.r
  dsimp only at ef eo es er
  subst ef eo es er
  obtain ⟨t, f, o, s', r⟩ := y
  obtain ⟨fb, fd, ef, -⟩ := rowS_sl HTB.out.f
  obtain ⟨ob, od, eo, -⟩ := rowS_sl HTB.out.o
  obtain ⟨sb, sd, es, -⟩ := rowS_sl HTB.out.s
  obtain ⟨rb, rd, er, -⟩ := rowS_sl HTB.out.r
  dsimp only at ef eo es er
  subst ef eo es er
  dsimp only at c0 c1 c2 c3 c4 c5 d0 d1 d2 d3 d4 d5 hl
  dsimp only
  have HF : Hid (∀ W, Below w.heap.size w W → Calls Tryz.prog 34 #[.agg #[.string (strOfNums s.name), .bool s.enum, .slice fa s.fs.length fc, .slice oa s.os.length oc, .slice sa s.ss.length sc, .slice ra s.rs.length rc], .agg #[.string (strOfNums t.name), .bool t.enum, .slice fb t.fs.length fd, .slice ob t.os.length od, .slice sb t.ss.length sd, .slice rb t.rs.length rd]] W fun e w' => ∃ va vc, e = .returned (.slice va (frshL s.fs t.fs).length vc) ∧ RowS w' AnyZ 1 (.slice va (frshL s.fs t.fs).length vc) (frshL s.fs t.fs).length ((frshL s.fs t.fs).flatMap cI64) ∧ Below W.heap.size W w') := hid fun W hW => (freshR18 W s t fa oa sa ra fb ob sb rb fc oc sc rc fd od sd rd (HTA.out.f.kept hW) (HTB.out.f.kept hW) hl).mono fun e w' ⟨va, vc, h1, h2, h3⟩ => ⟨va, vc, h1, own_row h2 (fun _ _ => trivial), h3⟩
  clear ha hb HTA HTB
  generalize frshL s.fs t.fs = FL at *
  go_enter Tryz.func15, Tryz.ntmps15
  go_upto_region 1 with fail
  have BA : Blk ((w.alloc (.cells #[.slice (some ⟨b1, o1, none⟩) a.length tc] 24)).alloc (.cells #[.slice (some ⟨b2, o2, none⟩) b.length td] 24)) w.heap.size 24 #[.slice (some ⟨b1, o1, none⟩) a.length tc] := (Blk.new _ _ _).kept (below_alloc _)
  have BB : Blk ((w.alloc (.cells #[.slice (some ⟨b1, o1, none⟩) a.length tc] 24)).alloc (.cells #[.slice (some ⟨b2, o2, none⟩) b.length td] 24)) (w.heap.size + 1) 24 #[.slice (some ⟨b2, o2, none⟩) b.length td] := Blk.newAt (by simp)
  have HL : Hid (Below w.heap.size w ((w.alloc (.cells #[.slice (some ⟨b1, o1, none⟩) a.length tc] 24)).alloc (.cells #[.slice (some ⟨b2, o2, none⟩) b.length td] 24))) := hid (by exact blBy)
  generalize (w.alloc (.cells #[.slice (some ⟨b1, o1, none⟩) a.length tc] 24)).alloc (.cells #[.slice (some ⟨b2, o2, none⟩) b.length td] 24) = U at *
  have HBA := hid BA
  have HBB := hid BB
  clear BA BB
  replace c0 := cell_below c0 HL.out
  replace c1 := cell_below c1 HL.out
  replace c2 := cell_below c2 HL.out
  replace c3 := cell_below c3 HL.out
  replace c4 := cell_below c4 HL.out
  replace c5 := cell_below c5 HL.out
  replace d0 := cell_below d0 HL.out
  replace d1 := cell_below d1 HL.out
  replace d2 := cell_below d2 HL.out
  replace d3 := cell_below d3 HL.out
  replace d4 := cell_below d4 HL.out
  replace d5 := cell_below d5 HL.out
  have HU : Hid (Below U.heap.size U U) := hid (Below.refl _ _)
  go_region_held3 (fun W => W.cell? ⟨w.heap.size, 0, none⟩ = some (.slice (some ⟨b1, o1, none⟩) a.length tc) ∧ W.cell? ⟨w.heap.size + 1, 0, none⟩ = some (.slice (some ⟨b2, o2, none⟩) b.length td) ∧ W.cell? ⟨b1, o1 + i * 6, none⟩ = some (.string (strOfNums s.name)) ∧ W.cell? ⟨b1, o1 + i * 6 + 1, none⟩ = some (.bool s.enum) ∧ W.cell? ⟨b1, o1 + i * 6 + 2, none⟩ = some (.slice fa s.fs.length fc) ∧ W.cell? ⟨b1, o1 + i * 6 + 3, none⟩ = some (.slice oa s.os.length oc) ∧ W.cell? ⟨b1, o1 + i * 6 + 4, none⟩ = some (.slice sa s.ss.length sc) ∧ W.cell? ⟨b1, o1 + i * 6 + 5, none⟩ = some (.slice ra s.rs.length rc) ∧ W.cell? ⟨b2, o2 + k * 6, none⟩ = some (.string (strOfNums t.name)) ∧ W.cell? ⟨b2, o2 + k * 6 + 1, none⟩ = some (.bool t.enum) ∧ W.cell? ⟨b2, o2 + k * 6 + 2, none⟩ = some (.slice fb t.fs.length fd) ∧ W.cell? ⟨b2, o2 + k * 6 + 3, none⟩ = some (.slice ob t.os.length od) ∧ W.cell? ⟨b2, o2 + k * 6 + 4, none⟩ = some (.slice sb t.ss.length sd) ∧ W.cell? ⟨b2, o2 + k * 6 + 5, none⟩ = some (.slice rb t.rs.length rd)) (first | exact ⟨HBA.out.cell 0 _ rfl, HBB.out.cell 0 _ rfl, c0, c1, c2, c3, c4, c5, d0, d1, d2, d3, d4, d5⟩ | exact ⟨(HBA.out.kept HU.out).cell 0 _ rfl, (HBB.out.kept HU.out).cell 0 _ rfl, cell_below c0 HU.out, cell_below c1 HU.out, cell_below c2 HU.out, cell_below c3 HU.out, cell_below c4 HU.out, cell_below c5 HU.out, cell_below d0 HU.out, cell_below d1 HU.out, cell_below d2 HU.out, cell_below d3 HU.out, cell_below d4 HU.out, cell_below d5 HU.out⟩) (first | (go_at_call 34; refine (HF.out _ (below_trans (below_trans HL.out HU.out) (by first | exact below_drew1 _ | exact Below.refl _ _))).mono ?_; rintro e u1 ⟨va, vc, rfl, hr, hu1⟩; have HR := hid hr; replace HU := hid (below_trans HU.out (below_trans (by first | exact below_drew1 _ | exact Below.refl _ _) hu1)); clear hu1 hr))
  all_goals go_wp2
  all_goals go_ret
  all_goals exact ⟨va, vc, rfl, HR.out, below_trans HL.out HU.out⟩
/-- Fresh, as the law asks it. -/
structure FrN (w : World) (a b : List TV) (nm : List Int) (va : Option Addr) (n vc : Nat) (r : Int) (w' : World) : Prop where
  l : Below w.heap.size w w'
  bad : ¬ (goodB a = true ∧ goodB b = true) → n = 0 ∧ r = 18
  no : goodB a = true ∧ goodB b = true → (msgO a nm = none ∨ msgO b nm = none) → n = 0 ∧ r = 20
  yes : goodB a = true ∧ goodB b = true → ∀ x y, msgO a nm = some x → msgO b nm = some y → n = (frshL x.t.fs y.t.fs).length ∧ r = 0 ∧ RowS w' AnyZ 1 (.slice va (frshL x.t.fs y.t.fs).length vc) (frshL x.t.fs y.t.fs).length ((frshL x.t.fs y.t.fs).flatMap cI64)
theorem freshN (w : World) (a b : List TV) (ta tb : Option Addr) (tc td : Nat) (ha : TbR w (.slice ta a.length tc) a) (hb : TbR w (.slice tb b.length td) b) (ka : ∀ x ∈ a, OkV x) (kb : ∀ x ∈ b, OkV x) (nm : List Int) (hn : TxA nm) (m : Int) (hm : w.cell? ⟨0, 0, none⟩ = some (.int .i64 m)) : Calls Tryz.prog 11 #[.agg #[.slice ta a.length tc], .agg #[.slice tb b.length td], .string (strOfNums nm)] w fun e w' => ∃ va n vc r, e = .returned (.tuple #[.slice va n vc, .int .i64 r]) ∧ FrN w a b nm va n vc r w' := by
  refine (freshFT w a b ta tb tc td ha hb ka kb nm hn m hm).mono ?_
  rintro e w' ⟨h1, h2, h3, h4⟩
  by_cases g : goodB a = true ∧ goodB b = true
  · cases p : msgO a nm with
    | none => exact ⟨_, _, _, _, h3 g (.inl p), h1, fun q => absurd g q, fun _ _ => ⟨rfl, rfl⟩, fun _ x y hx => by rw [p] at hx; cases hx⟩
    | some x =>
      cases q : msgO b nm with
      | none => exact ⟨_, _, _, _, h3 g (.inr q), h1, fun q => absurd g q, fun _ _ => ⟨rfl, rfl⟩, fun _ x y _ hy => by rw [q] at hy; cases hy⟩
      | some y =>
        obtain ⟨va, vc, rfl, hr⟩ := h4 g x y p q
        exact ⟨_, _, _, _, rfl, h1, fun q => absurd g q, (fun _ h => by
          rcases h with h | h
          · rw [p] at h; cases h
          · rw [q] at h; cases h), fun _ x' y' hx hy => by rw [p] at hx; rw [q] at hy; cases hx; cases hy; exact ⟨rfl, rfl, hr⟩⟩
  · exact ⟨_, _, _, _, h2 g, h1, fun _ => ⟨rfl, rfl⟩, fun h => absurd h g, fun h => absurd h g⟩
theorem evolveFreshW (w : World) (a b : List TV) (ta tb : Option Addr) (da db : Nat) (ha : TbR w (.slice ta a.length da) a) (hb : TbR w (.slice tb b.length db) b) (ka : ∀ x ∈ a, OkV x ∧ x.t.name.length < 4000000) (kb : ∀ x ∈ b, OkV x ∧ x.t.name.length < 4000000) (nm : List Int) (hn : TxA nm) (X Y : Int) (m : Int) (hm : w.cell? ⟨0, 0, none⟩ = some (.int .i64 m)) : Calls Tryz.prog 4 #[.agg #[.slice ta a.length da], .agg #[.slice tb b.length db], .string (strOfNums nm), .int .i64 X, .int .i64 Y] w fun e w' => e = .returned (.bool true) ∧ Below w.heap.size w w' := by
  have HM := hid hm
  have HF := hid fun W (hW : Below w.heap.size w W) => freshN W a b ta tb da db (ha.kept hW) (hb.kept hW) (fun x hx => (ka x hx).1) (fun x hx => (kb x hx).1) nm hn m (cell_below hm hW)
  have HG1 : Hid (∀ W, Below w.heap.size w W → Calls Tryz.prog 8 #[.agg #[.slice ta a.length da]] W fun e w' => e = .returned (.bool (goodB a)) ∧ Below W.heap.size W w') := hid fun W hW => by
    have := goodR W a ta da (ha.kept hW) (fun x hx => (ka x hx).1) (fun x hx => (ka x hx).2)
    rw [goodEq a (fun x hx => (ka x hx).1)] at this
    exact this
  have HG2 : Hid (∀ W, Below w.heap.size w W → Calls Tryz.prog 8 #[.agg #[.slice tb b.length db]] W fun e w' => e = .returned (.bool (goodB b)) ∧ Below W.heap.size W w') := hid fun W hW => by
    have := goodR W b tb db (hb.kept hW) (fun x hx => (kb x hx).1) (fun x hx => (kb x hx).2)
    rw [goodEq b (fun x hx => (kb x hx).1)] at this
    exact this
  have HB := hid fun W (hW : Below w.heap.size w W) => bothR W a b ta tb da db (ha.kept hW) (hb.kept hW) (fun x hx => (ka x hx).1.ok.nm) (fun x hx => (kb x hx).1.ok.nm) nm hn
  have HD := hid fun (g1 : goodB a = true) (g2 : goodB b = true) (i k : Nat) (hi : i < a.length) (hk : k < b.length) (he : b[k].t.enum = false) W (hW : Below w.heap.size w W) => freshDR W a b ta tb da db (ha.kept hW) (hb.kept hW) i k hi hk (Nat.le_trans ((good_TyG g2 (fun x hx => (kb x hx).1) hk).fl he) (by decide))
  clear ha hb ka kb hm
  go_enter Tryz.func4, Tryz.ntmps4
  go_wp2_with fail
  refine (HF.out _ (by exact blBy)).mono ?_
  rintro e w1 ⟨va, n, vc, r, rfl, F1⟩
  have BA : Blk w1 w.heap.size 24 #[.slice ta a.length da] := ((Blk.new _ _ _).kept (below_alloc _)).kept F1.l
  have BB : Blk w1 (w.heap.size + 1) 24 #[.slice tb b.length db] := (Blk.newAt (by simp)).kept F1.l
  have HL : Hid (Below w.heap.size w w1) := hid (bl_then (by exact blBy) F1.l)
  have HF1 := hid F1
  clear F1 HF
  have x1 := BA.cellF
  have z1 := BA.lt
  have x2 := BB.cellF
  have z2 := BB.lt
  have HW1 := hid (Below.refl w1.heap.size w1)
  go_wp2_with fail
  refine (awake18 _ m (cell_below HM.out HL.out)).mono ?_
  rintro e w2 ⟨rfl, hb2⟩
  replace HW1 := hid (below_trans HW1.out hb2)
  replace BA := BA.kept hb2
  replace BB := BB.kept hb2
  replace HL := hid (below_trans HL.out hb2)
  clear hb2 x1 x2 z1 z2
  have x1 := BA.cellF
  have z1 := BA.lt
  have x2 := BB.cellF
  have z2 := BB.lt
  go_wp2_with fail
  refine (widerT X Y _).mono ?_
  rintro e w2' ⟨rfl, rfl⟩
  go_wp2_with fail
  refine (widerR X Y _).mono ?_
  rintro e w2' ⟨rfl, rfl⟩
  generalize widB X Y = WB at *
  have qw : (WB != WB) = false := by simp
  go_wp2_with fail
  refine (HG1.out _ HL.out).mono ?_
  rintro e w3 ⟨rfl, hb3⟩
  replace HW1 := hid (below_trans HW1.out hb3)
  replace BA := BA.kept hb3
  replace BB := BB.kept hb3
  replace HL := hid (below_trans HL.out hb3)
  clear hb3 x1 x2 z1 z2
  have x1 := BA.cellF
  have z1 := BA.lt
  have x2 := BB.cellF
  have z2 := BB.lt
  cases g1 : goodB a with
  | false =>
    obtain ⟨rfl, rfl⟩ := HF1.out.bad (by rw [g1]; simp)
    go_wp2
    go_ret
    exact ⟨rfl, by have := HL.out; first | exact this | exact bl_drewN this _ | exact blBy⟩
  | true =>
  go_wp2_with fail
  refine (HG2.out _ HL.out).mono ?_
  rintro e w4 ⟨rfl, hb4⟩
  replace HW1 := hid (below_trans HW1.out hb4)
  replace BA := BA.kept hb4
  replace BB := BB.kept hb4
  replace HL := hid (below_trans HL.out hb4)
  clear hb4 x1 x2 z1 z2
  have x1 := BA.cellF
  have z1 := BA.lt
  have x2 := BB.cellF
  have z2 := BB.lt
  cases g2 : goodB b with
  | false =>
    obtain ⟨rfl, rfl⟩ := HF1.out.bad (by rw [g2]; simp)
    go_wp2
    go_ret
    exact ⟨rfl, by have := HL.out; first | exact this | exact bl_drewN this _ | exact blBy⟩
  | true =>
  go_wp2_with fail
  refine (HB.out _ HL.out).mono ?_
  rintro e w5 ⟨hB, hb5⟩
  replace HW1 := hid (below_trans HW1.out hb5)
  replace BA := BA.kept hb5
  replace BB := BB.kept hb5
  replace HL := hid (below_trans HL.out hb5)
  clear hb5 x1 x2 z1 z2
  have x1 := BA.cellF
  have z1 := BA.lt
  have x2 := BB.cellF
  have z2 := BB.lt
  have HND : (msgO a nm = none ∨ msgO b nm = none) ∨ ∃ x y, msgO a nm = some x ∧ msgO b nm = some y := by
    cases p : msgO a nm with
    | none => exact .inl (.inl rfl)
    | some x =>
      cases q : msgO b nm with
      | none => exact .inl (.inr rfl)
      | some y => exact .inr ⟨x, y, rfl, rfl⟩
  rcases HND with h | ⟨x, y, hx, hy⟩
  · obtain ⟨rfl, rfl⟩ := HF1.out.no ⟨g1, g2⟩ h
    obtain rfl := hB.1 h
    clear hB
    go_wp2
    go_ret
    exact ⟨rfl, by have := HL.out; first | exact this | exact bl_drewN this _ | exact blBy⟩
  · obtain ⟨rfl, rfl, hrow⟩ := HF1.out.yes ⟨g1, g2⟩ x y hx hy
    obtain ⟨i, k, hi, hk, rfl, rfl, rfl⟩ := hB.2 x y hx hy
    have he := (msgO_some hy).1
    replace HD := hid (HD.out g1 g2 i k hi hk he)
    have HRL := hid (hrow.kept HW1.out)
    obtain ⟨_, _, e, hn63⟩ := rowS_sl hrow
    clear e hB hrow HF1 HG1 HG2 HB hx hy he HW1
    have h63 : ((frshL a[i].t.fs b[k].t.fs).length : Int) ≤ 9223372036854775807 := by omega
    generalize frshL a[i].t.fs b[k].t.fs = FL at *
    go_wp2_with fail
    refine (HD.out _ HL.out).mono ?_
    rintro e w6 ⟨va6, vc6, rfl, hr6, hb6⟩
    have HR6 := hid hr6
    clear hr6 HD
    replace BA := BA.kept hb6
    replace BB := BB.kept hb6
    replace HL := hid (below_trans HL.out hb6)
    replace HRL := hid (HRL.out.kept hb6)
    clear hb6 x1 x2 z1 z2
    have x1 := BA.cellF
    have z1 := BA.lt
    have x2 := BB.cellF
    have z2 := BB.lt
    have q0 : ((FL.length : Int) != (FL.length : Int)) = false := by simp
    go_wp2
    go_loopw [17] (fun r wr => ∃ j : Nat, r = .int .i64 j ∧ j ≤ FL.length ∧ Hid (Below w6.heap.size w6 wr)) (fun r wr => FL.length - numAt wr r)
    case atStart => exact ⟨0, rfl, by omega, hid (Below.refl _ _)⟩
    case round =>
      obtain ⟨j, rfl, hj, hb⟩ := hrel
      by_cases hlt : j < FL.length
      · have k1 : (j : Int) < (FL.length : Int) := by omega
        obtain ⟨p1, s1, e1, hc⟩ := rowAt (g := cI64) (K := 1) (fun _ => rfl) (HRL.out.kept hb.out) (i := j) (x := FL[j]) (by simp [hlt])
        obtain ⟨p2, s2, e2, hd⟩ := rowAt (g := cI64) (K := 1) (fun _ => rfl) (HR6.out.kept hb.out) (i := j) (x := FL[j]) (by simp [hlt])
        subst e1 e2
        have c0 := hc 0 _ rfl
        have d0 := hd 0 _ rfl
        have y1 := World.block_lt_of_cell? _ _ c0
        have y2 := World.block_lt_of_cell? _ _ d0
        simp only [Nat.mul_one, Nat.add_zero] at c0 d0
        generalize FL[j] = z at *
        have q1 : (z != z) = false := by simp
        clear hc hd
        go_wp2
        go_quiet (fail)
        go_wp2
        exact ⟨⟨j + 1, by simp, by omega, hid (by have := hb.out; first | exact this | exact bl_drewN this _ | exact bl_drew this)⟩, by simp [numAt]; omega⟩
      · have k1 : ¬ (j : Int) < (FL.length : Int) := by omega
        go_wp2
        go_ret
        exact ⟨rfl, below_trans HL.out hb.out⟩
end Go.Proofs.YtmfaakimhgkedaaGreatDoor
namespace Go.Proofs.YtmfaakimhgkedaaGreatDoor
open Go.ChangeShapes Go.WideShapes Go.ChangeAt Go.RowKit
set_option maxRecDepth 1000000
theorem evolveFreshS (W : World) (l r : List TV) (a b : Option Addr) (c d : Nat) (h : TbR W (.slice a l.length c) l) (g : TbR W (.slice b r.length d) r) (hk : ∀ x ∈ l, OkV x ∧ x.t.name.length < 4000000) (gk : ∀ x ∈ r, OkV x ∧ x.t.name.length < 4000000) (m : Int) (hm : W.cell? ⟨0, 0, none⟩ = some (.int .i64 m)) (t : ByteArray) (ht : t.data.toList.length ≤ 9223372036854775807) (x y : Int) : Calls Tryz.prog 4 #[.agg #[.slice a l.length c], .agg #[.slice b r.length d], .string t, .int .i64 x, .int .i64 y] W fun e w' => e = .returned (.bool true) ∧ Below W.heap.size W w' := by
  have := evolveFreshW W l r a b c d h g hk gk (numsS t) ⟨numsS_bd t, by rw [numsS_len]; exact ht⟩ x y m hm
  rw [numsS_str] at this
  exact this
end Go.Proofs.YtmfaakimhgkedaaGreatDoor
